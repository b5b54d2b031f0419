/- The walks of the least and the most. -/
import Derived.Test.YtkljagffccommaaZ1
import Derived.Deep.RegionHeld3

/- What the document's Least and Most go through, and its Least. -/
namespace Go.Proofs.Ytkljagffccommaa
open Go.RowKit
namespace Sp
namespace Y
def catLs : List Tm → Int → Int
  | [], z => z
  | k :: r, z => catLs r (plusF z (spanT k).l)
theorem catX_l : ∀ (l : List Tm) (x : Ex), x.a = true → allA l = true → (catX l x).l = catLs l x.l
  | [], x, _, _ => by rw [catX, catLs]
  | k :: r, x, hx, h => by
    rw [allA, Bool.and_eq_true] at h
    have e : thenF x (spanT k) = ⟨plusF x.l (spanT k).l, mostF plusF x.m (spanT k).m, true⟩ := by unfold thenF; rw [hx, h.1]; rfl
    rw [catX, catLs, e]
    exact catX_l r _ rfl h.2
/-- -1: none yet -/
def altLs : List Tm → Int → Int
  | [], z => z
  | k :: r, z => altLs r (if (spanT k).a then (if z < 0 ∨ (spanT k).l < z then (spanT k).l else z) else z)
theorem altX_l : ∀ (l : List Tm) (x : Ex), (∀ k ∈ l, 0 ≤ (spanT k).l) → 0 ≤ x.l → (altX l x).a = true → (altX l x).l = altLs l (if x.a then x.l else -1)
  | [], x, _, _, h => by rw [altX] at h ⊢; rw [altLs, if_pos h]
  | k :: r, x, hk, hx, h => by
    have h0 := hk k (by simp)
    rw [altX] at h ⊢
    rw [altX_l r _ (fun y hy => hk y (by simp [hy])) ?_ h, altLs]
    · congr 1
      unfold orF
      cases hxa : x.a <;> cases hya : (spanT k).a
      · simp [hya]
      · simp [hya]
      · simp [hxa]
      · simp
        by_cases hl : (spanT k).l < x.l
        · rw [if_pos (.inr hl), Int.min_eq_right (by omega)]
        · rw [if_neg (by omega), Int.min_eq_left (by omega)]
    · unfold orF
      split
      · split
        · show 0 ≤ min x.l (spanT k).l; omega
        · exact hx
      · exact h0
def catMs : List Tm → Int → Int
  | [], z => z
  | k :: r, z => if (spanT k).m < 0 then -1 else catMs r (plusF z (spanT k).m)
theorem catX_m : ∀ (l : List Tm) (x : Ex), x.a = true → allA l = true → Eo x → (∀ k ∈ l, Eo (spanT k)) → (catX l x).m = if x.m = -1 then -1 else catMs l x.m
  | [], x, _, _, _, _ => by rw [catX, catMs]; split <;> omega
  | k :: r, x, hx, h, ho, hk => by
    rw [allA, Bool.and_eq_true] at h
    have hy := hk k (by simp)
    have e : thenF x (spanT k) = ⟨plusF x.l (spanT k).l, mostF plusF x.m (spanT k).m, true⟩ := by unfold thenF; rw [hx, h.1]; rfl
    have eo := thenF_eo ho hy
    rw [catX, catMs]
    rw [e] at eo ⊢
    rw [catX_m r _ rfl h.2 eo (fun y hy => hk y (by simp [hy]))]
    show (if mostF plusF x.m (spanT k).m = -1 then -1 else catMs r (mostF plusF x.m (spanT k).m)) = _
    by_cases h1 : x.m = -1
    · rw [if_pos h1]
      have : mostF plusF x.m (spanT k).m = -1 := by unfold mostF; rw [if_pos (.inl h1)]
      rw [if_pos this]
    · rw [if_neg h1]
      by_cases h2 : (spanT k).m = -1
      · have : mostF plusF x.m (spanT k).m = -1 := by unfold mostF; rw [if_pos (.inr h2)]
        rw [if_pos this, if_pos (by omega)]
      · have s1 := ho.m.resolve_left h1
        have s2 := hy.m.resolve_left h2
        have s3 := plusF_sm s1 s2
        have : mostF plusF x.m (spanT k).m = plusF x.m (spanT k).m := by unfold mostF; rw [if_neg (by rintro (h | h); exact h1 h; exact h2 h)]
        unfold Sm at s2 s3
        rw [this, if_neg (by omega), if_neg (by omega)]
def altMs : List Tm → Int → Int
  | [], z => z
  | k :: r, z => if (spanT k).a then (if (spanT k).m < 0 then -1 else altMs r (if z < (spanT k).m then (spanT k).m else z)) else altMs r z
theorem altX_m : ∀ (l : List Tm) (x : Ex), Eo x → (x.a = false → x.m = 0) → (∀ k ∈ l, Eo (spanT k)) → (altX l x).m = if x.m = -1 then -1 else altMs l x.m
  | [], x, _, _, _ => by rw [altX, altMs]; split <;> omega
  | k :: r, x, ho, h0, hk => by
    have hy := hk k (by simp)
    have eo := orF_eo ho hy
    have e0 : (orF x (spanT k)).a = false → (orF x (spanT k)).m = 0 := by
      unfold orF
      cases hxa : x.a <;> cases hya : (spanT k).a
      · intro _; exact (span_no k hya).2
      · intro h; simp at h; rw [hya] at h; cases h
      · intro h; simp at h; rw [hxa] at h; cases h
      · intro h; simp at h
    rw [altX, altMs, altX_m r _ eo e0 (fun y hy => hk y (by simp [hy]))]
    clear eo e0
    have hm := ho.m; have hn := hy.m
    unfold Sm at hm hn
    unfold orF
    cases hxa : x.a <;> cases hya : (spanT k).a
    · have h1 := h0 hxa; have h2 := (span_no k hya).2
      simp [h1, h2]
    · have h1 := h0 hxa
      simp [h1]
      by_cases h2 : (spanT k).m = -1
      · rw [if_pos h2, if_pos (by omega)]
      · rw [if_neg h2, if_neg (by omega)]
        congr 1
        split <;> omega
    · simp
    · simp
      by_cases h1 : x.m = -1
      · have : mostF max x.m (spanT k).m = -1 := by unfold mostF; rw [if_pos (.inl h1)]
        rw [if_pos this, if_pos h1]
      · rw [if_neg h1]
        by_cases h2 : (spanT k).m = -1
        · have : mostF max x.m (spanT k).m = -1 := by unfold mostF; rw [if_pos (.inr h2)]
          rw [if_pos this, if_pos (by omega)]
        · have : mostF max x.m (spanT k).m = max x.m (spanT k).m := by unfold mostF; rw [if_neg (by rintro (h | h); exact h1 h; exact h2 h)]
          rw [this, if_neg (by omega), if_neg (by omega)]
          congr 1
          split <;> omega
theorem span6_l (f : Nat → Bool) (lo hi : Int) (ks : List Tm) (h : allA ks = true) : (spanT (.mk 6 f lo hi ks)).l = catLs ks 0 := by
  rw [spanT]; simp; exact catX_l ks _ rfl h
theorem span6_m (f : Nat → Bool) (lo hi : Int) (ks : List Tm) (h : allA ks = true) (hk : ∀ k ∈ ks, Eo (spanT k)) : (spanT (.mk 6 f lo hi ks)).m = catMs ks 0 := by
  rw [spanT]; simp; rw [catX_m ks _ rfl h (eo0 _) hk]; rfl
theorem span7_l (f : Nat → Bool) (lo hi : Int) (ks : List Tm) (h : anyA ks = true) (hk : ∀ k ∈ ks, Eo (spanT k)) : (spanT (.mk 7 f lo hi ks)).l = altLs ks (-1) := by
  rw [spanT]; simp; rw [altX_l ks _ (fun k h => (hk k h).l.1) (by show (0 : Int) ≤ 0; omega) (by rw [altX_a, h]; rfl)]; rfl
theorem span7_m (f : Nat → Bool) (lo hi : Int) (ks : List Tm) (hk : ∀ k ∈ ks, Eo (spanT k)) : (spanT (.mk 7 f lo hi ks)).m = altMs ks 0 := by
  rw [spanT]; simp; rw [altX_m ks _ (eo0 _) (fun _ => rfl) hk]; rfl
theorem allA_mem : ∀ (ks : List Tm) (k : Tm), allA ks = true → k ∈ ks → (spanT k).a = true
  | x :: r, k, h, hk => by
    rw [allA, Bool.and_eq_true] at h
    rcases List.mem_cons.1 hk with e | e
    · rw [e]; exact h.1
    · exact allA_mem r k h.2 e
set_option maxRecDepth 100000 in
set_option maxHeartbeats 2000000 in
theorem least_6 (f : Nat → Bool) (lo hi : Int) (ks : List Tm) (d : TD) (w : World) (ht : TR w (.mk 6 f lo hi ks) d) (hs : ∀ k ∈ ks, Sm (spanT k).l) (ih : ∀ k ∈ ks, ∀ (d : TD) (w : World), TR w k d → Calls Try.prog 49 #[d.val] w (Tells w (.int .i64 (spanT k).l))) : Calls Try.prog 49 #[d.val] w (Tells w (.int .i64 (catLs ks 0))) := by
  cases ht with
  | mk _ _ _ _ _ q A c ds hq hl hn hk hr =>
  obtain ⟨n, hnn⟩ : ∃ n, ks.length = n := ⟨_, rfl⟩
  rw [hnn] at hn ⊢
  have T1 : Hid (TB (w.alloc (.cells #[.int .i64 6, .int .u64 (uv (q 0)), .int .u64 (uv (q 1)), .int .u64 (uv (q 2)), .int .u64 (uv (q 3)), .int .i64 lo, .int .i64 hi, .slice A n c] 29)) w.heap.size ⟨6, q, lo, hi, A, n, c⟩) := TB.new w ⟨6, q, lo, hi, A, n, c⟩
  have B1 : Hid (Below w.heap.size w (w.alloc (.cells #[.int .i64 6, .int .u64 (uv (q 0)), .int .u64 (uv (q 1)), .int .u64 (uv (q 2)), .int .u64 (uv (q 3)), .int .i64 lo, .int .i64 hi, .slice A n c] 29))) := below_new w _
  obtain ⟨⟨x0, x1, x2, x3, x4, x5, x6, x7⟩, -⟩ := T1.out.all
  have IH := Lib.hid ih; have HK := Lib.hid hk; have HR := Lib.hid hr; have HL := Lib.hid hl; have HN := Lib.hid hnn; have HS := Lib.hid hs
  clear ih hk hr hl hnn hs
  unfold TD.val
  go_enter Try.func49, Try.ntmps49
  go_wp2_with fail
  go_loopw [3, 4] (fun u v wr => ∃ (i : Nat) (z : Int), i ≤ n ∧ u = .int .i64 z ∧ v = .int .i64 (i : Nat) ∧ Hid (Sm z ∧ catLs (ks.drop i) z = catLs ks 0) ∧ Hid (TB wr w.heap.size ⟨6, q, lo, hi, A, n, c⟩ ∧ Below w.heap.size w wr)) (fun _ v _ => n - (intOf v).toNat)
  case atStart => exact ⟨0, 0, Nat.zero_le _, rfl, rfl, ⟨sm0, by rw [List.drop_zero]⟩, ⟨T1.out, B1.out⟩⟩
  case round =>
    obtain ⟨i, z, hi1, rfl, rfl, hZ, hW⟩ := hrel
    clear T1 B1 x0 x1 x2 x3 x4 x5 x6 x7
    by_cases hlt : i < n
    · have qi : (i : Int) < (n : Int) := by omega
      have hi2 : i < ks.length := by have := HN.out; omega
      have hi4 : i < ds.length := by have h1 := HL.out; omega
      obtain ⟨kb1, off1, rfl, hb1, hc1⟩ := HR.out (by omega)
      obtain ⟨a0, a1, a2, a3, a4, a5, a6, a7⟩ := kid_cells hW.out.2 hb1 hc1 (List.getElem?_eq_getElem hi4)
      obtain ⟨⟨x0, x1, x2, x3, x4, x5, x6, x7⟩, -⟩ := hW.out.1.all
      have k1 := (HK.out i _ _ (List.getElem?_eq_getElem hi2) (List.getElem?_eq_getElem hi4)).keeps hW.out.2
      have kbl : kb1 < wr.heap.size := Nat.lt_of_lt_of_le hb1 hW.out.2.size
      have q6 : IntKind.i64.wrap ((i : Int) + 1) = ((i + 1 : Nat) : Int) := by rw [IntWalk.i64_in _ (by omega)]; omega
      have hm := List.getElem_mem hi2
      have zz : catLs (ks.drop (i + 1)) (plusF z (spanT ks[i]).l) = catLs ks 0 := by rw [← hZ.out.2, List.drop_eq_getElem_cons hi2, catLs]
      generalize ks[i] = kt at *
      generalize ds[i] = dt at *
      have D1 := Lib.hid (IH.out kt hm dt _ k1)
      have hsk := HS.out kt hm
      generalize (spanT kt).l = y at *
      have D2 := Lib.hid fun W => cap_any z y W hZ.out.1 hsk
      have Z2 : Hid (Sm (plusF z y) ∧ catLs (ks.drop (i + 1)) (plusF z y) = catLs ks 0) := ⟨plusF_sm hZ.out.1 hsk, zz⟩
      have q9 : IntKind.i64.wrap (z + y) = z + y := by have h1 := hZ.out.1; have h2 := hsk; unfold Sm at h1 h2; exact IntWalk.i64_in _ (by omega)
      have W2 := hW
      clear hc1 k1 hi2 hi4 hb1 zz hm hZ hW hsk
      unfold TD.val at D1
      go_wp2_with fail
      refine D1.out.mono ?_
      rintro e w5 ⟨rfl, hb5⟩
      have W5 : Hid (TB w5 w.heap.size ⟨6, q, lo, hi, some ⟨kb1, off1, none⟩, n, c⟩ ∧ Below w.heap.size w w5) := ⟨W2.out.1.below hb5, W2.out.2.trans (hb5.mono W2.out.2.size)⟩
      clear D1 W2 hb5 a0 a1 a2 a3 a4 a5 a6 a7 kbl x0 x1 x2 x3 x4 x5 x6 x7
      go_wp2_with fail
      refine (D2.out _).mono ?_
      rintro e w6 ⟨rfl, rfl⟩
      clear D2
      go_wp2_with fail
      go_roundw
      case rel => exact ⟨i + 1, _, by omega, rfl, by simp, Z2, W5⟩
      case measure => simp [intOf]; omega
    · have ez : z = catLs ks 0 := by rw [← hZ.out.2, List.drop_eq_nil_of_le (by have := HN.out; omega), catLs]
      subst ez
      obtain ⟨⟨x0, x1, x2, x3, x4, x5, x6, x7⟩, -⟩ := hW.out.1.all
      have qi : ¬ (i : Int) < (n : Int) := by omega
      clear hZ
      generalize catLs ks 0 = zl at *
      go_wp2
      go_ret
      exact ⟨rfl, hW.out.2⟩
set_option maxRecDepth 100000 in
set_option maxHeartbeats 2000000 in
theorem least_7 (f : Nat → Bool) (lo hi : Int) (ks : List Tm) (d : TD) (w : World) (ht : TR w (.mk 7 f lo hi ks) d) (ha : ∀ k ∈ ks, ∀ (d : TD) (w : World), TR w k d → Calls Try.prog 48 #[d.val] w (Tells w (.bool (spanT k).a))) (ih : ∀ k ∈ ks, (spanT k).a = true → ∀ (d : TD) (w : World), TR w k d → Calls Try.prog 49 #[d.val] w (Tells w (.int .i64 (spanT k).l))) : Calls Try.prog 49 #[d.val] w (Tells w (.int .i64 (altLs ks (-1)))) := by
  cases ht with
  | mk _ _ _ _ _ q A c ds hq hl hn hk hr =>
  obtain ⟨n, hnn⟩ : ∃ n, ks.length = n := ⟨_, rfl⟩
  rw [hnn] at hn ⊢
  have T1 : Hid (TB (w.alloc (.cells #[.int .i64 7, .int .u64 (uv (q 0)), .int .u64 (uv (q 1)), .int .u64 (uv (q 2)), .int .u64 (uv (q 3)), .int .i64 lo, .int .i64 hi, .slice A n c] 29)) w.heap.size ⟨7, q, lo, hi, A, n, c⟩) := TB.new w ⟨7, q, lo, hi, A, n, c⟩
  have B1 : Hid (Below w.heap.size w (w.alloc (.cells #[.int .i64 7, .int .u64 (uv (q 0)), .int .u64 (uv (q 1)), .int .u64 (uv (q 2)), .int .u64 (uv (q 3)), .int .i64 lo, .int .i64 hi, .slice A n c] 29))) := below_new w _
  obtain ⟨⟨x0, x1, x2, x3, x4, x5, x6, x7⟩, -⟩ := T1.out.all
  have IA := Lib.hid ha; have IH := Lib.hid ih; have HK := Lib.hid hk; have HR := Lib.hid hr; have HL := Lib.hid hl; have HN := Lib.hid hnn
  clear ih ha hk hr hl hnn
  unfold TD.val
  go_enter Try.func49, Try.ntmps49
  go_wp2_with fail
  go_loopw [3, 5] (fun u v wr => ∃ (i : Nat) (z : Int), i ≤ n ∧ u = .int .i64 z ∧ v = .int .i64 (i : Nat) ∧ Hid (altLs (ks.drop i) z = altLs ks (-1)) ∧ Hid (TB wr w.heap.size ⟨7, q, lo, hi, A, n, c⟩ ∧ Below w.heap.size w wr)) (fun _ v _ => n - (intOf v).toNat)
  case atStart => exact ⟨0, -1, Nat.zero_le _, rfl, rfl, (by show altLs (ks.drop 0) _ = _; rw [List.drop_zero]), ⟨T1.out, B1.out⟩⟩
  case round =>
    obtain ⟨i, z, hi1, rfl, rfl, hZ, hW⟩ := hrel
    clear T1 B1 x0 x1 x2 x3 x4 x5 x6 x7
    by_cases hlt : i < n
    · have qi : (i : Int) < (n : Int) := by omega
      have hi2 : i < ks.length := by have := HN.out; omega
      have hi4 : i < ds.length := by have h1 := HL.out; omega
      obtain ⟨kb1, off1, rfl, hb1, hc1⟩ := HR.out (by omega)
      obtain ⟨a0, a1, a2, a3, a4, a5, a6, a7⟩ := kid_cells hW.out.2 hb1 hc1 (List.getElem?_eq_getElem hi4)
      obtain ⟨⟨x0, x1, x2, x3, x4, x5, x6, x7⟩, -⟩ := hW.out.1.all
      have k1 := (HK.out i _ _ (List.getElem?_eq_getElem hi2) (List.getElem?_eq_getElem hi4)).keeps hW.out.2
      have kbl : kb1 < wr.heap.size := Nat.lt_of_lt_of_le hb1 hW.out.2.size
      have q6 : IntKind.i64.wrap ((i : Int) + 1) = ((i + 1 : Nat) : Int) := by rw [IntWalk.i64_in _ (by omega)]; omega
      have hm := List.getElem_mem hi2
      have zz : Hid (altLs (ks.drop (i + 1)) (if (spanT ks[i]).a then (if z < 0 ∨ (spanT ks[i]).l < z then (spanT ks[i]).l else z) else z) = altLs ks (-1)) := by show altLs _ _ = _; rw [← hZ.out, List.drop_eq_getElem_cons hi2, altLs]
      have hge := List.getElem?_eq_getElem hi4
      generalize ks[i] = kt at *
      generalize ds[i] = dt at *
      have D1 := Lib.hid (IA.out kt hm dt _ k1)
      have D2 := Lib.hid (IH.out kt hm)
      have K1 := Lib.hid k1
      have HC := Lib.hid hc1
      have HG := Lib.hid hge
      have W2 := hW
      clear hc1 k1 hi2 hi4 hm hZ hW hge
      generalize (spanT kt).a = b at *
      generalize (spanT kt).l = y at *
      unfold TD.val at D1
      go_wp2_with fail
      refine D1.out.mono ?_
      rintro e w5 ⟨rfl, hb5⟩
      have W5 : Hid (TB w5 w.heap.size ⟨7, q, lo, hi, some ⟨kb1, off1, none⟩, n, c⟩ ∧ Below w.heap.size w w5) := ⟨W2.out.1.below hb5, W2.out.2.trans (hb5.mono W2.out.2.size)⟩
      have K5 := Lib.hid (K1.out.keeps hb5)
      clear D1 W2 hb5 a0 a1 a2 a3 a4 a5 a6 a7 kbl x0 x1 x2 x3 x4 x5 x6 x7 K1
      cases b
      · clear D2 HC HG K5
        rw [if_neg (by decide)] at zz
        go_wp2_with fail
        go_roundw
        case rel => exact ⟨i + 1, z, by omega, rfl, by simp, zz, W5⟩
        case measure => simp [intOf]; omega
      · have D3 := Lib.hid (D2.out rfl dt _ K5.out)
        obtain ⟨a0, a1, a2, a3, a4, a5, a6, a7⟩ := kid_cells W5.out.2 hb1 HC.out HG.out
        obtain ⟨⟨x0, x1, x2, x3, x4, x5, x6, x7⟩, -⟩ := W5.out.1.all
        have kbl : kb1 < w5.heap.size := Nat.lt_of_lt_of_le hb1 W5.out.2.size
        clear D2 HC HG K5 hb1
        unfold TD.val at D3
        rw [if_pos rfl] at zz
        go_wp2_with fail
        refine D3.out.mono ?_
        rintro e w6 ⟨rfl, hb6⟩
        have W6 : Hid (TB w6 w.heap.size ⟨7, q, lo, hi, some ⟨kb1, off1, none⟩, n, c⟩ ∧ Below w.heap.size w w6) := ⟨W5.out.1.below hb6, W5.out.2.trans (hb6.mono W5.out.2.size)⟩
        clear D3 W5 hb6 a0 a1 a2 a3 a4 a5 a6 a7 kbl x0 x1 x2 x3 x4 x5 x6 x7
        by_cases z0 : z < 0
        · rw [if_pos (.inl z0)] at zz
          go_wp2_with fail
          go_roundw
          case rel => exact ⟨i + 1, y, by omega, rfl, by simp, zz, W6⟩
          case measure => simp [intOf]; omega
        · by_cases z1 : y < z
          · rw [if_pos (.inr z1)] at zz
            go_wp2_with fail
            go_roundw
            case rel => exact ⟨i + 1, y, by omega, rfl, by simp, zz, W6⟩
            case measure => simp [intOf]; omega
          · rw [if_neg (by rintro (h | h); exact z0 h; exact z1 h)] at zz
            go_wp2_with fail
            go_roundw
            case rel => exact ⟨i + 1, z, by omega, rfl, by simp, zz, W6⟩
            case measure => simp [intOf]; omega
    · have ez : z = altLs ks (-1) := by rw [← hZ.out, List.drop_eq_nil_of_le (by have := HN.out; omega), altLs]
      subst ez
      obtain ⟨⟨x0, x1, x2, x3, x4, x5, x6, x7⟩, -⟩ := hW.out.1.all
      have qi : ¬ (i : Int) < (n : Int) := by omega
      clear hZ
      generalize altLs ks (-1) = zl at *
      go_wp2
      go_ret
      exact ⟨rfl, hW.out.2⟩
end Y
end Sp
end Go.Proofs.Ytkljagffccommaa

/- The document's Least. -/
namespace Go.Proofs.Ytkljagffccommaa
open Go.RowKit
namespace Sp
namespace Y
/-- a repeat's block and its kid -/
def Kx (w W : World) (b : Nat) (D : TD) (k : Tm) (dk : TD) : Prop := TB W b D ∧ Below w.heap.size w W ∧ TR W k dk
theorem step_kx {w W w' : World} {b : Nat} {D : TD} {k : Tm} {dk : TD} (h : Hid (Kx w W b D k dk)) (hb : Below W.heap.size W w') : Hid (Kx w w' b D k dk) := ⟨h.out.1.below hb, h.out.2.1.trans (hb.mono h.out.2.1.size), h.out.2.2.keeps hb⟩
set_option maxRecDepth 100000 in
set_option maxHeartbeats 2000000 in
theorem least_8 (f : Nat → Bool) (lo hi : Int) (k : Tm) (d : TD) (w : World) (ht : TR w (.mk 8 f lo hi [k]) d) (hlo : 0 ≤ lo ∧ lo ≤ 200) (hs : Sm (spanT k).l) (ha : ∀ (d : TD) (w : World), TR w k d → Calls Try.prog 48 #[d.val] w (Tells w (.bool (spanT k).a))) (ih : (spanT k).a = true → ∀ (d : TD) (w : World), TR w k d → Calls Try.prog 49 #[d.val] w (Tells w (.int .i64 (spanT k).l))) : Calls Try.prog 49 #[d.val] w (Tells w (.int .i64 (if (spanT k).a then timesF (spanT k).l lo else 0))) := by
  cases ht with
  | mk _ _ _ _ _ q A c ds hq hl hn hk hr =>
  obtain ⟨dk, rfl⟩ : ∃ dk, ds = [dk] := List.length_eq_one_iff.1 (by rw [hl]; rfl)
  obtain ⟨kb1, off1, rfl, hb1, hc1⟩ := hr (by simp)
  have kr := hk 0 k dk rfl rfl
  have nb := below_new w (.cells #[.int .i64 8, .int .u64 (uv (q 0)), .int .u64 (uv (q 1)), .int .u64 (uv (q 2)), .int .u64 (uv (q 3)), .int .i64 lo, .int .i64 hi, .slice (some ⟨kb1, off1, none⟩) 1 c] 29)
  change Calls Try.prog 49 #[.agg #[.int .i64 8, .int .u64 (uv (q 0)), .int .u64 (uv (q 1)), .int .u64 (uv (q 2)), .int .u64 (uv (q 3)), .int .i64 lo, .int .i64 hi, .slice (some ⟨kb1, off1, none⟩) 1 c]] w _
  have B1 := Lib.hid nb
  have T1 : Hid (TB (w.alloc (.cells #[.int .i64 8, .int .u64 (uv (q 0)), .int .u64 (uv (q 1)), .int .u64 (uv (q 2)), .int .u64 (uv (q 3)), .int .i64 lo, .int .i64 hi, .slice (some ⟨kb1, off1, none⟩) 1 c] 29)) w.heap.size ⟨8, q, lo, hi, some ⟨kb1, off1, none⟩, 1, c⟩) := TB.new w ⟨8, q, lo, hi, some ⟨kb1, off1, none⟩, 1, c⟩
  obtain ⟨⟨x0, x1, x2, x3, x4, x5, x6, x7⟩, -⟩ := T1.out.all
  obtain ⟨a0, a1, a2, a3, a4, a5, a6, a7⟩ := kid_cells nb hb1 hc1 (i := 0) (d := dk) rfl
  simp only [Nat.zero_mul, Nat.add_zero] at a0 a1 a2 a3 a4 a5 a6 a7
  have k1 := kr.keeps nb
  have D1 := Lib.hid (ha dk _ k1)
  have D2 := Lib.hid ih
  have K1 := Lib.hid k1
  have HC := Lib.hid hc1
  clear ih ha hk hr hq kr nb hc1 k1
  generalize (spanT k).a = b at *
  generalize (spanT k).l = y at *
  generalize hR : (if b = true then timesF y lo else 0) = rr
  have RR := Lib.hid hR
  clear hR
  have D4 := Lib.hid fun W => product_any lo y W hs hlo
  clear hs hlo
  unfold TD.val at D1
  go_enter Try.func49, Try.ntmps49
  go_wp2_with fail
  refine D1.out.mono ?_
  rintro e w5 ⟨rfl, hb5⟩
  have W5 : Hid (TB w5 w.heap.size ⟨8, q, lo, hi, some ⟨kb1, off1, none⟩, 1, c⟩ ∧ Below w.heap.size w w5) := ⟨T1.out.below hb5, B1.out.trans (hb5.mono B1.out.size)⟩
  have K5 := Lib.hid (K1.out.keeps hb5)
  clear D1 hb5 a0 a1 a2 a3 a4 a5 a6 a7 x0 x1 x2 x3 x4 x5 x6 x7 K1 T1 B1
  cases b
  · clear D2 HC K5 D4
    have e0 : 0 = rr := by have := RR.out; rw [if_neg (by decide)] at this; exact this
    subst e0
    clear RR
    go_wp2
    go_ret
    exact ⟨rfl, W5.out.2⟩
  · have dr : Below w5.heap.size w5 w5.drew := (Below.refl _ _).drew
    have K5d : Hid (Kx w w5.drew w.heap.size ⟨8, q, lo, hi, some ⟨kb1, off1, none⟩, 1, c⟩ k dk) := ⟨W5.out.1.below dr, W5.out.2.trans (dr.mono W5.out.2.size), K5.out.keeps dr⟩
    have KC : Hid (∀ W : World, Below w.heap.size w W → W.cell? ⟨kb1, off1, none⟩ = some (.int .i64 dk.op) ∧ W.cell? ⟨kb1, off1 + 1, none⟩ = some (.int .u64 (uv (dk.q 0))) ∧ W.cell? ⟨kb1, off1 + 2, none⟩ = some (.int .u64 (uv (dk.q 1))) ∧ W.cell? ⟨kb1, off1 + 3, none⟩ = some (.int .u64 (uv (dk.q 2))) ∧ W.cell? ⟨kb1, off1 + 4, none⟩ = some (.int .u64 (uv (dk.q 3))) ∧ W.cell? ⟨kb1, off1 + 5, none⟩ = some (.int .i64 dk.lo) ∧ W.cell? ⟨kb1, off1 + 6, none⟩ = some (.int .i64 dk.hi) ∧ W.cell? ⟨kb1, off1 + 7, none⟩ = some (.slice dk.A dk.n dk.c)) := fun W h => by
      obtain ⟨a0, a1, a2, a3, a4, a5, a6, a7⟩ := kid_cells h hb1 HC.out (i := 0) (d := dk) rfl
      simp only [Nat.zero_mul, Nat.add_zero] at a0 a1 a2 a3 a4 a5 a6 a7
      exact ⟨a0, a1, a2, a3, a4, a5, a6, a7⟩
    have P51 : Hid (∀ W : World, Hid (Kx w W w.heap.size ⟨8, q, lo, hi, some ⟨kb1, off1, none⟩, 1, c⟩ k dk) → Calls Try.prog 49 #[dk.val] W (Tells W (.int .i64 y))) := fun W h => D2.out rfl dk W h.out.2.2
    obtain ⟨a0, a1, a2, a3, a4, a5, a6, a7⟩ := KC.out _ W5.out.2
    obtain ⟨⟨x0, x1, x2, x3, x4, x5, x6, x7⟩, -⟩ := W5.out.1.all
    have kbl : kb1 < w5.heap.size := Nat.lt_of_lt_of_le hb1 W5.out.2.size
    clear D2 HC K5 dr
    unfold TD.val at P51
    have e0 : timesF y lo = rr := by have := RR.out; rw [if_pos rfl] at this; exact this
    subst e0
    clear RR
    go_wp2_with fail
    go_region_held3 (fun w' => w'.cell? ⟨w.heap.size, 0, none⟩ = some (.int .i64 8) ∧ w'.cell? ⟨w.heap.size, 1, none⟩ = some (.int .u64 (uv (q 0))) ∧ w'.cell? ⟨w.heap.size, 2, none⟩ = some (.int .u64 (uv (q 1))) ∧ w'.cell? ⟨w.heap.size, 3, none⟩ = some (.int .u64 (uv (q 2))) ∧ w'.cell? ⟨w.heap.size, 4, none⟩ = some (.int .u64 (uv (q 3))) ∧ w'.cell? ⟨w.heap.size, 5, none⟩ = some (.int .i64 lo) ∧ w'.cell? ⟨w.heap.size, 6, none⟩ = some (.int .i64 hi) ∧ w'.cell? ⟨w.heap.size, 7, none⟩ = some (.slice (some ⟨kb1, off1, none⟩) 1 c) ∧ w'.cell? ⟨kb1, off1, none⟩ = some (.int .i64 dk.op) ∧ w'.cell? ⟨kb1, off1 + 1, none⟩ = some (.int .u64 (uv (dk.q 0))) ∧ w'.cell? ⟨kb1, off1 + 2, none⟩ = some (.int .u64 (uv (dk.q 1))) ∧ w'.cell? ⟨kb1, off1 + 3, none⟩ = some (.int .u64 (uv (dk.q 2))) ∧ w'.cell? ⟨kb1, off1 + 4, none⟩ = some (.int .u64 (uv (dk.q 3))) ∧ w'.cell? ⟨kb1, off1 + 5, none⟩ = some (.int .i64 dk.lo) ∧ w'.cell? ⟨kb1, off1 + 6, none⟩ = some (.int .i64 dk.hi) ∧ w'.cell? ⟨kb1, off1 + 7, none⟩ = some (.slice dk.A dk.n dk.c))
      (first | exact ⟨by assumption, by assumption, by assumption, by assumption, by assumption, by assumption, by assumption, by assumption, by assumption, by assumption, by assumption, by assumption, by assumption, by assumption, by assumption, by assumption⟩ | go_keep)
      (first
        | (go_at_call 49; refine (P51.out _ (by assumption)).mono ?_; rintro e w6 ⟨rfl, hb6⟩; have K6 := step_kx K5d hb6; clear hb6; obtain ⟨⟨_, _, _, _, _, _, _, _⟩, -⟩ := K6.out.1.all; obtain ⟨_, _, _, _, _, _, _, _⟩ := KC.out _ K6.out.2.1)
        | (go_at_call 52; refine (D4.out _).mono ?_; rintro e w7 ⟨rfl, rfl⟩)
        | fail)
    all_goals
      clear D4 P51 KC
      go_wp2
      go_ret
      exact ⟨rfl, K6.out.2.1⟩
set_option maxRecDepth 100000 in
set_option maxHeartbeats 2000000 in
theorem leastref_any : ∀ (t : Tm) (d : TD) (w : World), TR w t d → Rw t → (spanT t).a = true → Calls Try.prog 49 #[d.val] w (Tells w (.int .i64 (spanT t).l)) := by
  intro t
  induction t using Tm.ind with
  | h op f lo hi ks ih =>
  intro d w ht hw hA
  have hf := hw.facts
  have hok := Rt.ok _ hw
  have eo : ∀ k ∈ ks, Eo (spanT k) := fun k hk => spanT_eo k (hok.kid hk)
  have ha : ∀ k ∈ ks, ∀ (d : TD) (w : World), TR w k d → Calls Try.prog 48 #[d.val] w (Tells w (.bool (spanT k).a)) := fun k hk d w h => anyref_any k d w h (hw.kid hk)
  have ih' : ∀ k ∈ ks, (spanT k).a = true → ∀ (d : TD) (w : World), TR w k d → Calls Try.prog 49 #[d.val] w (Tells w (.int .i64 (spanT k).l)) := fun k hk h d w ht => ih k hk d w ht (hw.kid hk) h
  by_cases h6 : op = 6
  · subst h6
    rw [span6_a] at hA
    rw [span6_l _ _ _ _ hA]
    exact least_6 f lo hi ks d w ht (fun k hk => (eo k hk).l) (fun k hk => ih' k hk (allA_mem ks k hA hk))
  by_cases h7 : op = 7
  · subst h7
    rw [span7_a] at hA
    rw [span7_l _ _ _ _ hA eo]
    exact least_7 f lo hi ks d w ht ha ih'
  by_cases h8 : op = 8
  · subst h8
    obtain ⟨k, rfl⟩ : ∃ k, ks = [k] := List.length_eq_one_iff.1 (hf.2.2.2 rfl).1
    have e : (spanT (.mk 8 f lo hi [k])).l = if (spanT k).a then timesF (spanT k).l lo else 0 := by
      rw [spanT]; simp [repX]; unfold repeatF; cases (spanT k).a <;> rfl
    rw [e]
    have h8 := hf.2.2.2 rfl
    exact least_8 f lo hi k d w ht ⟨h8.2.1, h8.2.2.1⟩ (eo k (by simp)).l (ha k (by simp)) (ih' k (by simp))
  have h9 : ¬ op = 9 := by
    intro h; subst h; rw [spanT] at hA; simp at hA
  cases ht with
  | mk _ _ _ _ _ q A c ds hq hl hn hk hr =>
  have B1 := Lib.hid (below_new w (.cells #[.int .i64 op, .int .u64 (uv (q 0)), .int .u64 (uv (q 1)), .int .u64 (uv (q 2)), .int .u64 (uv (q 3)), .int .i64 lo, .int .i64 hi, .slice A ks.length c] 29))
  obtain ⟨⟨x0, x1, x2, x3, x4, x5, x6, x7⟩, -⟩ := (TB.new w ⟨op, q, lo, hi, A, ks.length, c⟩).all
  unfold TD.val
  by_cases h2 : op = 2
  · subst h2
    have R : Hid ((spanT (.mk 2 f lo hi ks)).l = 1) := by
      show _ = _
      rw [spanT] at hA ⊢
      simp at hA ⊢
      cases hz : eqK f noF
      · rfl
      · rw [hz] at hA; simp at hA
    clear ih ih' ha hk hr hw hf hq hok eo hA
    rw [R.out]
    go_enter Try.func49, Try.ntmps49
    go_wp2
    go_ret
    exact ⟨rfl, B1.out⟩
  have q2 : (op == 2) = false := by rw [beq_eq_false_iff_ne]; exact h2
  by_cases h3 : op = 3
  · subst h3
    have R : Hid ((spanT (.mk 3 f lo hi ks)).l = 1) := by show _ = _; rw [spanT]; simp
    clear ih ih' ha hk hr hw hf hq hok eo hA
    rw [R.out]
    go_enter Try.func49, Try.ntmps49
    go_wp2
    go_ret
    exact ⟨rfl, B1.out⟩
  have q3 : (op == 3) = false := by rw [beq_eq_false_iff_ne]; exact h3
  have R : Hid ((spanT (.mk op f lo hi ks)).l = 0) := by show _ = _; rw [spanT, if_pos (by omega)]
  have q6 : (op == 6) = false := by rw [beq_eq_false_iff_ne]; exact h6
  have q7 : (op == 7) = false := by rw [beq_eq_false_iff_ne]; exact h7
  have q8 : (op == 8) = false := by rw [beq_eq_false_iff_ne]; exact h8
  clear ih ih' ha hk hr hw hf hq hok eo hA
  rw [R.out]
  go_enter Try.func49, Try.ntmps49
  go_wp2
  go_ret
  exact ⟨rfl, B1.out⟩
end Y
end Sp
end Go.Proofs.Ytkljagffccommaa

/- The document's Most of rows and choices. -/
namespace Go.Proofs.Ytkljagffccommaa
open Go.RowKit
namespace Sp
namespace Y
set_option maxRecDepth 100000 in
set_option maxHeartbeats 2000000 in
theorem most_6 (f : Nat → Bool) (lo hi : Int) (ks : List Tm) (d : TD) (w : World) (ht : TR w (.mk 6 f lo hi ks) d) (hal : ∀ k ∈ ks, (spanT k).a = true) (hs : ∀ k ∈ ks, (spanT k).m = -1 ∨ Sm (spanT k).m) (ha : ∀ k ∈ ks, ∀ (d : TD) (w : World), TR w k d → Calls Try.prog 48 #[d.val] w (Tells w (.bool (spanT k).a))) (ih : ∀ k ∈ ks, (spanT k).a = true → ∀ (d : TD) (w : World), TR w k d → Calls Try.prog 50 #[d.val] w (Tells w (.int .i64 (spanT k).m))) : Calls Try.prog 50 #[d.val] w (Tells w (.int .i64 (catMs ks 0))) := by
  cases ht with
  | mk _ _ _ _ _ q A c ds hq hl hn hk hr =>
  obtain ⟨n, hnn⟩ : ∃ n, ks.length = n := ⟨_, rfl⟩
  rw [hnn] at hn ⊢
  have T1 : Hid (TB (w.alloc (.cells #[.int .i64 6, .int .u64 (uv (q 0)), .int .u64 (uv (q 1)), .int .u64 (uv (q 2)), .int .u64 (uv (q 3)), .int .i64 lo, .int .i64 hi, .slice A n c] 29)) w.heap.size ⟨6, q, lo, hi, A, n, c⟩) := TB.new w ⟨6, q, lo, hi, A, n, c⟩
  have B1 : Hid (Below w.heap.size w (w.alloc (.cells #[.int .i64 6, .int .u64 (uv (q 0)), .int .u64 (uv (q 1)), .int .u64 (uv (q 2)), .int .u64 (uv (q 3)), .int .i64 lo, .int .i64 hi, .slice A n c] 29))) := below_new w _
  obtain ⟨⟨x0, x1, x2, x3, x4, x5, x6, x7⟩, -⟩ := T1.out.all
  have IA := Lib.hid ha; have IH := Lib.hid ih; have HK := Lib.hid hk; have HR := Lib.hid hr; have HL := Lib.hid hl; have HN := Lib.hid hnn; have HS := Lib.hid hs; have HA := Lib.hid hal
  clear ih ha hk hr hl hnn hs hal
  unfold TD.val
  go_enter Try.func50, Try.ntmps50
  go_wp2_with fail
  go_loopw [3, 4] (fun u v wr => ∃ (i : Nat) (z : Int), i ≤ n ∧ u = .int .i64 z ∧ v = .int .i64 (i : Nat) ∧ Hid (Sm z ∧ catMs (ks.drop i) z = catMs ks 0) ∧ Hid (TB wr w.heap.size ⟨6, q, lo, hi, A, n, c⟩ ∧ Below w.heap.size w wr)) (fun _ v _ => n - (intOf v).toNat)
  case atStart => exact ⟨0, 0, Nat.zero_le _, rfl, rfl, ⟨sm0, by rw [List.drop_zero]⟩, ⟨T1.out, B1.out⟩⟩
  case round =>
    obtain ⟨i, z, hi1, rfl, rfl, hZ, hW⟩ := hrel
    clear T1 B1 x0 x1 x2 x3 x4 x5 x6 x7
    by_cases hlt : i < n
    · have qi : (i : Int) < (n : Int) := by omega
      have hi2 : i < ks.length := by have := HN.out; omega
      have hi4 : i < ds.length := by have h1 := HL.out; omega
      obtain ⟨kb1, off1, rfl, hb1, hc1⟩ := HR.out (by omega)
      obtain ⟨a0, a1, a2, a3, a4, a5, a6, a7⟩ := kid_cells hW.out.2 hb1 hc1 (List.getElem?_eq_getElem hi4)
      obtain ⟨⟨x0, x1, x2, x3, x4, x5, x6, x7⟩, -⟩ := hW.out.1.all
      have k1 := (HK.out i _ _ (List.getElem?_eq_getElem hi2) (List.getElem?_eq_getElem hi4)).keeps hW.out.2
      have kbl : kb1 < wr.heap.size := Nat.lt_of_lt_of_le hb1 hW.out.2.size
      have q6 : IntKind.i64.wrap ((i : Int) + 1) = ((i + 1 : Nat) : Int) := by rw [IntWalk.i64_in _ (by omega)]; omega
      have hm := List.getElem_mem hi2
      have zz : Hid ((if (spanT ks[i]).m < 0 then -1 else catMs (ks.drop (i + 1)) (plusF z (spanT ks[i]).m)) = catMs ks 0) := by show _ = _; rw [← hZ.out.2, List.drop_eq_getElem_cons hi2, catMs]
      have hge := List.getElem?_eq_getElem hi4
      generalize ks[i] = kt at *
      generalize ds[i] = dt at *
      have D1 := Lib.hid (IA.out kt hm dt _ k1)
      have D2 := Lib.hid (IH.out kt hm)
      have hsm := HS.out kt hm
      have K1 := Lib.hid k1
      have HC := Lib.hid hc1
      have HG := Lib.hid hge
      have HZ := Lib.hid hZ.out.1
      have W2 := hW
      have hka := HA.out kt hm
      clear hc1 k1 hi2 hi4 hm hZ hW hge
      generalize (spanT kt).a = b at *
      generalize (spanT kt).m = y at *
      unfold TD.val at D1
      go_wp2_with fail
      refine D1.out.mono ?_
      rintro e w5 ⟨rfl, hb5⟩
      have W5 : Hid (TB w5 w.heap.size ⟨6, q, lo, hi, some ⟨kb1, off1, none⟩, n, c⟩ ∧ Below w.heap.size w w5) := ⟨W2.out.1.below hb5, W2.out.2.trans (hb5.mono W2.out.2.size)⟩
      have K5 := Lib.hid (K1.out.keeps hb5)
      clear D1 W2 hb5 a0 a1 a2 a3 a4 a5 a6 a7 kbl x0 x1 x2 x3 x4 x5 x6 x7 K1
      subst hka
      · have D3 := Lib.hid (D2.out rfl dt _ K5.out)
        obtain ⟨a0, a1, a2, a3, a4, a5, a6, a7⟩ := kid_cells W5.out.2 hb1 HC.out HG.out
        obtain ⟨⟨x0, x1, x2, x3, x4, x5, x6, x7⟩, -⟩ := W5.out.1.all
        have kbl : kb1 < w5.heap.size := Nat.lt_of_lt_of_le hb1 W5.out.2.size
        clear D2 HC HG K5 hb1
        unfold TD.val at D3
        go_wp2_with fail
        refine D3.out.mono ?_
        rintro e w6 ⟨rfl, hb6⟩
        have W6 : Hid (TB w6 w.heap.size ⟨6, q, lo, hi, some ⟨kb1, off1, none⟩, n, c⟩ ∧ Below w.heap.size w w6) := ⟨W5.out.1.below hb6, W5.out.2.trans (hb6.mono W5.out.2.size)⟩
        clear D3 W5 hb6 a0 a1 a2 a3 a4 a5 a6 a7 kbl x0 x1 x2 x3 x4 x5 x6 x7
        obtain ⟨⟨x0, x1, x2, x3, x4, x5, x6, x7⟩, -⟩ := W6.out.1.all
        by_cases y0 : y < 0
        · rw [if_pos y0] at zz
          go_wp2
          go_ret
          rw [← zz.out]
          exact ⟨rfl, W6.out.2⟩
        · rw [if_neg y0] at zz
          have sy : Sm y := by rcases hsm with h | h; omega; exact h
          have D5 := Lib.hid fun W => cap_any z y W HZ.out sy
          have q9 : IntKind.i64.wrap (z + y) = z + y := by have h1 := HZ.out; unfold Sm at h1 sy; exact IntWalk.i64_in _ (by omega)
          have Z2 : Hid (Sm (plusF z y) ∧ catMs (ks.drop (i + 1)) (plusF z y) = catMs ks 0) := ⟨plusF_sm HZ.out sy, zz.out⟩
          clear zz HZ sy hsm
          go_wp2_with fail
          refine (D5.out _).mono ?_
          rintro e w7 ⟨rfl, rfl⟩
          clear D5
          go_wp2_with fail
          go_roundw
          case rel => exact ⟨i + 1, _, by omega, rfl, by simp, Z2, W6⟩
          case measure => simp [intOf]; omega
    · have ez : z = catMs ks 0 := by rw [← hZ.out.2, List.drop_eq_nil_of_le (by have := HN.out; omega), catMs]
      subst ez
      obtain ⟨⟨x0, x1, x2, x3, x4, x5, x6, x7⟩, -⟩ := hW.out.1.all
      have qi : ¬ (i : Int) < (n : Int) := by omega
      clear hZ
      generalize catMs ks 0 = zl at *
      go_wp2
      go_ret
      exact ⟨rfl, hW.out.2⟩
set_option maxRecDepth 100000 in
set_option maxHeartbeats 2000000 in
theorem most_7 (f : Nat → Bool) (lo hi : Int) (ks : List Tm) (d : TD) (w : World) (ht : TR w (.mk 7 f lo hi ks) d) (hs : ∀ k ∈ ks, (spanT k).m = -1 ∨ Sm (spanT k).m) (ha : ∀ k ∈ ks, ∀ (d : TD) (w : World), TR w k d → Calls Try.prog 48 #[d.val] w (Tells w (.bool (spanT k).a))) (ih : ∀ k ∈ ks, (spanT k).a = true → ∀ (d : TD) (w : World), TR w k d → Calls Try.prog 50 #[d.val] w (Tells w (.int .i64 (spanT k).m))) : Calls Try.prog 50 #[d.val] w (Tells w (.int .i64 (altMs ks 0))) := by
  cases ht with
  | mk _ _ _ _ _ q A c ds hq hl hn hk hr =>
  obtain ⟨n, hnn⟩ : ∃ n, ks.length = n := ⟨_, rfl⟩
  rw [hnn] at hn ⊢
  have T1 : Hid (TB (w.alloc (.cells #[.int .i64 7, .int .u64 (uv (q 0)), .int .u64 (uv (q 1)), .int .u64 (uv (q 2)), .int .u64 (uv (q 3)), .int .i64 lo, .int .i64 hi, .slice A n c] 29)) w.heap.size ⟨7, q, lo, hi, A, n, c⟩) := TB.new w ⟨7, q, lo, hi, A, n, c⟩
  have B1 : Hid (Below w.heap.size w (w.alloc (.cells #[.int .i64 7, .int .u64 (uv (q 0)), .int .u64 (uv (q 1)), .int .u64 (uv (q 2)), .int .u64 (uv (q 3)), .int .i64 lo, .int .i64 hi, .slice A n c] 29))) := below_new w _
  obtain ⟨⟨x0, x1, x2, x3, x4, x5, x6, x7⟩, -⟩ := T1.out.all
  have IA := Lib.hid ha; have IH := Lib.hid ih; have HK := Lib.hid hk; have HR := Lib.hid hr; have HL := Lib.hid hl; have HN := Lib.hid hnn; have HS := Lib.hid hs
  clear ih ha hk hr hl hnn hs
  unfold TD.val
  go_enter Try.func50, Try.ntmps50
  go_wp2_with fail
  go_loopw [3, 4] (fun u v wr => ∃ (i : Nat) (z : Int), i ≤ n ∧ u = .int .i64 z ∧ v = .int .i64 (i : Nat) ∧ Hid (Sm z ∧ altMs (ks.drop i) z = altMs ks 0) ∧ Hid (TB wr w.heap.size ⟨7, q, lo, hi, A, n, c⟩ ∧ Below w.heap.size w wr)) (fun _ v _ => n - (intOf v).toNat)
  case atStart => exact ⟨0, 0, Nat.zero_le _, rfl, rfl, ⟨sm0, by rw [List.drop_zero]⟩, ⟨T1.out, B1.out⟩⟩
  case round =>
    obtain ⟨i, z, hi1, rfl, rfl, hZ, hW⟩ := hrel
    clear T1 B1 x0 x1 x2 x3 x4 x5 x6 x7
    by_cases hlt : i < n
    · have qi : (i : Int) < (n : Int) := by omega
      have hi2 : i < ks.length := by have := HN.out; omega
      have hi4 : i < ds.length := by have h1 := HL.out; omega
      obtain ⟨kb1, off1, rfl, hb1, hc1⟩ := HR.out (by omega)
      obtain ⟨a0, a1, a2, a3, a4, a5, a6, a7⟩ := kid_cells hW.out.2 hb1 hc1 (List.getElem?_eq_getElem hi4)
      obtain ⟨⟨x0, x1, x2, x3, x4, x5, x6, x7⟩, -⟩ := hW.out.1.all
      have k1 := (HK.out i _ _ (List.getElem?_eq_getElem hi2) (List.getElem?_eq_getElem hi4)).keeps hW.out.2
      have kbl : kb1 < wr.heap.size := Nat.lt_of_lt_of_le hb1 hW.out.2.size
      have q6 : IntKind.i64.wrap ((i : Int) + 1) = ((i + 1 : Nat) : Int) := by rw [IntWalk.i64_in _ (by omega)]; omega
      have hm := List.getElem_mem hi2
      have zz : Hid ((if (spanT ks[i]).a then (if (spanT ks[i]).m < 0 then -1 else altMs (ks.drop (i + 1)) (if z < (spanT ks[i]).m then (spanT ks[i]).m else z)) else altMs (ks.drop (i + 1)) z) = altMs ks 0) := by show _ = _; rw [← hZ.out.2, List.drop_eq_getElem_cons hi2, altMs]
      have hge := List.getElem?_eq_getElem hi4
      generalize ks[i] = kt at *
      generalize ds[i] = dt at *
      have D1 := Lib.hid (IA.out kt hm dt _ k1)
      have D2 := Lib.hid (IH.out kt hm)
      have hsm := HS.out kt hm
      have K1 := Lib.hid k1
      have HC := Lib.hid hc1
      have HG := Lib.hid hge
      have HZ := Lib.hid hZ.out.1
      have W2 := hW
      clear hc1 k1 hi2 hi4 hm hZ hW hge
      generalize (spanT kt).a = b at *
      generalize (spanT kt).m = y at *
      unfold TD.val at D1
      go_wp2_with fail
      refine D1.out.mono ?_
      rintro e w5 ⟨rfl, hb5⟩
      have W5 : Hid (TB w5 w.heap.size ⟨7, q, lo, hi, some ⟨kb1, off1, none⟩, n, c⟩ ∧ Below w.heap.size w w5) := ⟨W2.out.1.below hb5, W2.out.2.trans (hb5.mono W2.out.2.size)⟩
      have K5 := Lib.hid (K1.out.keeps hb5)
      clear D1 W2 hb5 a0 a1 a2 a3 a4 a5 a6 a7 kbl x0 x1 x2 x3 x4 x5 x6 x7 K1
      cases b
      · have Z2 : Hid (Sm z ∧ altMs (ks.drop (i + 1)) z = altMs ks 0) := ⟨HZ.out, by have := zz.out; rw [if_neg (by decide)] at this; exact this⟩
        clear D2 HC HG K5 zz HZ hsm
        go_wp2_with fail
        go_roundw
        case rel => exact ⟨i + 1, z, by omega, rfl, by simp, Z2, W5⟩
        case measure => simp [intOf]; omega
      · have D3 := Lib.hid (D2.out rfl dt _ K5.out)
        obtain ⟨a0, a1, a2, a3, a4, a5, a6, a7⟩ := kid_cells W5.out.2 hb1 HC.out HG.out
        obtain ⟨⟨x0, x1, x2, x3, x4, x5, x6, x7⟩, -⟩ := W5.out.1.all
        have kbl : kb1 < w5.heap.size := Nat.lt_of_lt_of_le hb1 W5.out.2.size
        clear D2 HC HG K5 hb1
        unfold TD.val at D3
        rw [if_pos rfl] at zz
        go_wp2_with fail
        refine D3.out.mono ?_
        rintro e w6 ⟨rfl, hb6⟩
        have W6 : Hid (TB w6 w.heap.size ⟨7, q, lo, hi, some ⟨kb1, off1, none⟩, n, c⟩ ∧ Below w.heap.size w w6) := ⟨W5.out.1.below hb6, W5.out.2.trans (hb6.mono W5.out.2.size)⟩
        clear D3 W5 hb6 a0 a1 a2 a3 a4 a5 a6 a7 kbl x0 x1 x2 x3 x4 x5 x6 x7
        obtain ⟨⟨x0, x1, x2, x3, x4, x5, x6, x7⟩, -⟩ := W6.out.1.all
        by_cases y0 : y < 0
        · rw [if_pos y0] at zz
          go_wp2
          go_ret
          rw [← zz.out]
          exact ⟨rfl, W6.out.2⟩
        · rw [if_neg y0] at zz
          have sy : Sm y := by rcases hsm with h | h; omega; exact h
          by_cases z1 : z < y
          · rw [if_pos z1] at zz
            have Z2 : Hid (Sm y ∧ altMs (ks.drop (i + 1)) y = altMs ks 0) := ⟨sy, zz.out⟩
            clear zz HZ sy hsm
            go_wp2_with fail
            go_roundw
            case rel => exact ⟨i + 1, y, by omega, rfl, by simp, Z2, W6⟩
            case measure => simp [intOf]; omega
          · rw [if_neg z1] at zz
            have Z2 : Hid (Sm z ∧ altMs (ks.drop (i + 1)) z = altMs ks 0) := ⟨HZ.out, zz.out⟩
            clear zz HZ sy hsm
            go_wp2_with fail
            go_roundw
            case rel => exact ⟨i + 1, z, by omega, rfl, by simp, Z2, W6⟩
            case measure => simp [intOf]; omega
    · have ez : z = altMs ks 0 := by rw [← hZ.out.2, List.drop_eq_nil_of_le (by have := HN.out; omega), altMs]
      subst ez
      obtain ⟨⟨x0, x1, x2, x3, x4, x5, x6, x7⟩, -⟩ := hW.out.1.all
      have qi : ¬ (i : Int) < (n : Int) := by omega
      clear hZ
      generalize altMs ks 0 = zl at *
      go_wp2
      go_ret
      exact ⟨rfl, hW.out.2⟩
end Y
end Sp
end Go.Proofs.Ytkljagffccommaa

/- The document's Most. -/
namespace Go.Proofs.Ytkljagffccommaa
open Go.RowKit
namespace Sp
namespace Y
def repM (y hi : Int) : Int := if y = 0 ∨ hi = 0 then 0 else if y < 0 ∨ hi < 0 then -1 else timesF y hi
set_option maxRecDepth 100000 in
set_option maxHeartbeats 2000000 in
theorem most_8 (f : Nat → Bool) (lo hi : Int) (k : Tm) (d : TD) (w : World) (ht : TR w (.mk 8 f lo hi [k]) d) (hhi : -1 ≤ hi ∧ hi ≤ 200) (hs : (spanT k).m = -1 ∨ Sm (spanT k).m) (ha : ∀ (d : TD) (w : World), TR w k d → Calls Try.prog 48 #[d.val] w (Tells w (.bool (spanT k).a))) (ih : (spanT k).a = true → ∀ (d : TD) (w : World), TR w k d → Calls Try.prog 50 #[d.val] w (Tells w (.int .i64 (spanT k).m))) : Calls Try.prog 50 #[d.val] w (Tells w (.int .i64 (if (spanT k).a then repM (spanT k).m hi else 0))) := by
  cases ht with
  | mk _ _ _ _ _ q A c ds hq hl hn hk hr =>
  obtain ⟨dk, rfl⟩ : ∃ dk, ds = [dk] := List.length_eq_one_iff.1 (by rw [hl]; rfl)
  obtain ⟨kb1, off1, rfl, hb1, hc1⟩ := hr (by simp)
  have kr := hk 0 k dk rfl rfl
  have nb := below_new w (.cells #[.int .i64 8, .int .u64 (uv (q 0)), .int .u64 (uv (q 1)), .int .u64 (uv (q 2)), .int .u64 (uv (q 3)), .int .i64 lo, .int .i64 hi, .slice (some ⟨kb1, off1, none⟩) 1 c] 29)
  change Calls Try.prog 50 #[.agg #[.int .i64 8, .int .u64 (uv (q 0)), .int .u64 (uv (q 1)), .int .u64 (uv (q 2)), .int .u64 (uv (q 3)), .int .i64 lo, .int .i64 hi, .slice (some ⟨kb1, off1, none⟩) 1 c]] w _
  have B1 := Lib.hid nb
  have T1 : Hid (TB (w.alloc (.cells #[.int .i64 8, .int .u64 (uv (q 0)), .int .u64 (uv (q 1)), .int .u64 (uv (q 2)), .int .u64 (uv (q 3)), .int .i64 lo, .int .i64 hi, .slice (some ⟨kb1, off1, none⟩) 1 c] 29)) w.heap.size ⟨8, q, lo, hi, some ⟨kb1, off1, none⟩, 1, c⟩) := TB.new w ⟨8, q, lo, hi, some ⟨kb1, off1, none⟩, 1, c⟩
  obtain ⟨⟨x0, x1, x2, x3, x4, x5, x6, x7⟩, -⟩ := T1.out.all
  obtain ⟨a0, a1, a2, a3, a4, a5, a6, a7⟩ := kid_cells nb hb1 hc1 (i := 0) (d := dk) rfl
  simp only [Nat.zero_mul, Nat.add_zero] at a0 a1 a2 a3 a4 a5 a6 a7
  have k1 := kr.keeps nb
  have D1 := Lib.hid (ha dk _ k1)
  have D2 := Lib.hid ih
  have K1 := Lib.hid k1
  have HC := Lib.hid hc1
  clear ih ha hk hr hq kr nb hc1 k1
  generalize (spanT k).a = b at *
  generalize (spanT k).m = y at *
  generalize hR : (if b = true then repM y hi else 0) = rr
  have RR := Lib.hid hR
  clear hR
  unfold TD.val at D1
  go_enter Try.func50, Try.ntmps50
  go_wp2_with fail
  refine D1.out.mono ?_
  rintro e w5 ⟨rfl, hb5⟩
  have W5 : Hid (TB w5 w.heap.size ⟨8, q, lo, hi, some ⟨kb1, off1, none⟩, 1, c⟩ ∧ Below w.heap.size w w5) := ⟨T1.out.below hb5, B1.out.trans (hb5.mono B1.out.size)⟩
  have K5 := Lib.hid (K1.out.keeps hb5)
  clear D1 hb5 a0 a1 a2 a3 a4 a5 a6 a7 x0 x1 x2 x3 x4 x5 x6 x7 K1 T1 B1
  cases b
  · clear D2 HC K5
    have e0 : 0 = rr := by have := RR.out; rw [if_neg (by decide)] at this; exact this
    subst e0
    clear RR
    go_wp2
    go_ret
    exact ⟨rfl, W5.out.2⟩
  · have D3 := Lib.hid (D2.out rfl dk _ K5.out)
    obtain ⟨a0, a1, a2, a3, a4, a5, a6, a7⟩ := kid_cells W5.out.2 hb1 HC.out (i := 0) (d := dk) rfl
    simp only [Nat.zero_mul, Nat.add_zero] at a0 a1 a2 a3 a4 a5 a6 a7
    obtain ⟨⟨x0, x1, x2, x3, x4, x5, x6, x7⟩, -⟩ := W5.out.1.all
    have kbl : kb1 < w5.heap.size := Nat.lt_of_lt_of_le hb1 W5.out.2.size
    clear D2 HC K5 hb1
    unfold TD.val at D3
    have e0 : repM y hi = rr := by have := RR.out; rw [if_pos rfl] at this; exact this
    subst e0
    clear RR
    go_wp2_with fail
    refine D3.out.mono ?_
    rintro e w6 ⟨rfl, hb6⟩
    have W6 : Hid (TB w6 w.heap.size ⟨8, q, lo, hi, some ⟨kb1, off1, none⟩, 1, c⟩ ∧ Below w.heap.size w w6) := ⟨W5.out.1.below hb6, W5.out.2.trans (hb6.mono W5.out.2.size)⟩
    clear D3 W5 hb6 a0 a1 a2 a3 a4 a5 a6 a7 kbl x0 x1 x2 x3 x4 x5 x6 x7
    obtain ⟨⟨x0, x1, x2, x3, x4, x5, x6, x7⟩, -⟩ := W6.out.1.all
    by_cases y0 : y = 0
    · subst y0
      have R : Hid (repM 0 hi = 0) := by show _ = _; unfold repM; rw [if_pos (.inl rfl)]
      go_wp2
      go_ret
      rw [R.out]
      exact ⟨rfl, W6.out.2⟩
    have qy : (y == 0) = false := by rw [beq_eq_false_iff_ne]; exact y0
    by_cases h0 : hi = 0
    · subst h0
      have R : Hid (repM y 0 = 0) := by show _ = _; unfold repM; rw [if_pos (.inr rfl)]
      go_wp2
      go_ret
      rw [R.out]
      exact ⟨rfl, W6.out.2⟩
    have qh : (hi == 0) = false := by rw [beq_eq_false_iff_ne]; exact h0
    by_cases y1 : y < 0
    · have R : Hid (repM y hi = -1) := by show _ = _; unfold repM; rw [if_neg (by omega), if_pos (.inl y1)]
      go_wp2
      go_ret
      rw [R.out]
      exact ⟨rfl, W6.out.2⟩
    by_cases h1 : hi < 0
    · have R : Hid (repM y hi = -1) := by show _ = _; unfold repM; rw [if_neg (by omega), if_pos (.inr h1)]
      go_wp2
      go_ret
      rw [R.out]
      exact ⟨rfl, W6.out.2⟩
    have R : Hid (repM y hi = timesF y hi) := by show _ = _; unfold repM; rw [if_neg (by omega), if_neg (by omega)]
    have D4 := Lib.hid fun W => product_any hi y W (hs.resolve_left (by omega)) ⟨by omega, hhi.2⟩
    clear hs hhi
    go_wp2_with fail
    refine (D4.out _).mono ?_
    rintro e w7 ⟨rfl, rfl⟩
    clear D4
    go_wp2
    go_ret
    rw [R.out]
    exact ⟨rfl, W6.out.2⟩
set_option maxRecDepth 100000 in
set_option maxHeartbeats 2000000 in
theorem mostref_any : ∀ (t : Tm) (d : TD) (w : World), TR w t d → Rw t → (spanT t).a = true → Calls Try.prog 50 #[d.val] w (Tells w (.int .i64 (spanT t).m)) := by
  intro t
  induction t using Tm.ind with
  | h op f lo hi ks ih =>
  intro d w ht hw hA
  have hf := hw.facts
  have hok := Rt.ok _ hw
  have eo : ∀ k ∈ ks, Eo (spanT k) := fun k hk => spanT_eo k (hok.kid hk)
  have ha : ∀ k ∈ ks, ∀ (d : TD) (w : World), TR w k d → Calls Try.prog 48 #[d.val] w (Tells w (.bool (spanT k).a)) := fun k hk d w h => anyref_any k d w h (hw.kid hk)
  have ih' : ∀ k ∈ ks, (spanT k).a = true → ∀ (d : TD) (w : World), TR w k d → Calls Try.prog 50 #[d.val] w (Tells w (.int .i64 (spanT k).m)) := fun k hk h d w ht => ih k hk d w ht (hw.kid hk) h
  by_cases h6 : op = 6
  · subst h6
    rw [span6_a] at hA
    rw [span6_m _ _ _ _ hA eo]
    exact most_6 f lo hi ks d w ht (fun k hk => allA_mem ks k hA hk) (fun k hk => (eo k hk).m) ha ih'
  by_cases h7 : op = 7
  · subst h7
    rw [span7_m _ _ _ _ eo]
    exact most_7 f lo hi ks d w ht (fun k hk => (eo k hk).m) ha ih'
  by_cases h8 : op = 8
  · subst h8
    obtain ⟨k, rfl⟩ : ∃ k, ks = [k] := List.length_eq_one_iff.1 (hf.2.2.2 rfl).1
    have h8 := hf.2.2.2 rfl
    have em := (eo k (by simp)).m
    have e : (spanT (.mk 8 f lo hi [k])).m = if (spanT k).a then repM (spanT k).m hi else 0 := by
      rw [spanT]; simp [repX]; unfold repeatF
      cases (spanT k).a
      · rfl
      · show (if (spanT k).m = 0 ∨ hi = 0 then 0 else mostF timesF (spanT k).m hi) = repM (spanT k).m hi
        unfold repM mostF
        by_cases c1 : (spanT k).m = 0 ∨ hi = 0
        · rw [if_pos c1, if_pos c1]
        · rw [if_neg c1, if_neg c1]
          by_cases c2 : (spanT k).m = -1 ∨ hi = -1
          · rw [if_pos c2, if_pos (by omega)]
          · unfold Sm at em
            rw [if_neg c2, if_neg (by omega)]
    rw [e]
    exact most_8 f lo hi k d w ht ⟨h8.2.2.2.1, h8.2.2.2.2.1⟩ em (ha k (by simp)) (ih' k (by simp))
  have h9 : ¬ op = 9 := by
    intro h; subst h; rw [spanT] at hA; simp at hA
  cases ht with
  | mk _ _ _ _ _ q A c ds hq hl hn hk hr =>
  have B1 := Lib.hid (below_new w (.cells #[.int .i64 op, .int .u64 (uv (q 0)), .int .u64 (uv (q 1)), .int .u64 (uv (q 2)), .int .u64 (uv (q 3)), .int .i64 lo, .int .i64 hi, .slice A ks.length c] 29))
  obtain ⟨⟨x0, x1, x2, x3, x4, x5, x6, x7⟩, -⟩ := (TB.new w ⟨op, q, lo, hi, A, ks.length, c⟩).all
  unfold TD.val
  by_cases h2 : op = 2
  · subst h2
    have R : Hid ((spanT (.mk 2 f lo hi ks)).m = 1) := by
      show _ = _
      rw [spanT] at hA ⊢
      simp at hA ⊢
      cases hz : eqK f noF
      · rfl
      · rw [hz] at hA; simp at hA
    clear ih ih' ha hk hr hw hf hq hok eo hA
    rw [R.out]
    go_enter Try.func50, Try.ntmps50
    go_wp2
    go_ret
    exact ⟨rfl, B1.out⟩
  have q2 : (op == 2) = false := by rw [beq_eq_false_iff_ne]; exact h2
  by_cases h3 : op = 3
  · subst h3
    have R : Hid ((spanT (.mk 3 f lo hi ks)).m = 1) := by show _ = _; rw [spanT]; simp
    clear ih ih' ha hk hr hw hf hq hok eo hA
    rw [R.out]
    go_enter Try.func50, Try.ntmps50
    go_wp2
    go_ret
    exact ⟨rfl, B1.out⟩
  have q3 : (op == 3) = false := by rw [beq_eq_false_iff_ne]; exact h3
  have R : Hid ((spanT (.mk op f lo hi ks)).m = 0) := by show _ = _; rw [spanT, if_pos (by omega)]
  have q6 : (op == 6) = false := by rw [beq_eq_false_iff_ne]; exact h6
  have q7 : (op == 7) = false := by rw [beq_eq_false_iff_ne]; exact h7
  have q8 : (op == 8) = false := by rw [beq_eq_false_iff_ne]; exact h8
  clear ih ih' ha hk hr hw hf hq hok eo hA
  rw [R.out]
  go_enter Try.func50, Try.ntmps50
  go_wp2
  go_ret
  exact ⟨rfl, B1.out⟩
end Y
end Sp
end Go.Proofs.Ytkljagffccommaa

/- The document's Span and Nullable. -/
namespace Go.Proofs.Ytkljagffccommaa
open Go.RowKit
namespace Sp
namespace Y
theorem cx_step {w W w' : World} {b : Nat} {t : Tm} {d : TD} (h : Hid (Cx w W b t d)) (hb : Below W.heap.size W w') : Hid (Cx w w' b t d) := h.out.to hb
set_option maxRecDepth 100000 in
set_option maxHeartbeats 2000000 in
theorem spanref_any (t : Tm) (d : TD) (w : World) (ht : TR w t d) (hw : Rw t) : Calls Try.prog 23 #[d.val] w (Tells w (.tuple #[.int .i64 (spanT t).l, .int .i64 (spanT t).m, .bool (spanT t).a])) := by
  have nb := below_new w (.cells d.cells 29)
  have T1 := TB.new w d
  have k1 := ht.keeps nb
  have D1 := Lib.hid (anyref_any t d _ k1 hw)
  have C1 : Hid (Cx w (w.alloc (.cells d.cells 29)) w.heap.size t d) := ⟨nb, k1, T1⟩
  obtain ⟨⟨x0, x1, x2, x3, x4, x5, x6, x7⟩, -⟩ := T1.all
  have N0 := Lib.hid (span_no t)
  have D2 : Hid (∀ W : World, Hid (Cx w W w.heap.size t d) → (spanT t).a = true → Calls Try.prog 49 #[d.val] W (Tells W (.int .i64 (spanT t).l))) := fun W h e => leastref_any t d W h.out.tr hw e
  have D3 : Hid (∀ W : World, Hid (Cx w W w.heap.size t d) → (spanT t).a = true → Calls Try.prog 50 #[d.val] W (Tells W (.int .i64 (spanT t).m))) := fun W h e => mostref_any t d W h.out.tr hw e
  clear nb k1 T1 ht hw
  generalize (spanT t).a = b at *
  generalize (spanT t).l = y at *
  generalize (spanT t).m = z at *
  unfold TD.val TD.cells at *
  go_enter Try.func23, Try.ntmps23
  go_wp2_with fail
  refine D1.out.mono ?_
  rintro e w5 ⟨rfl, hb5⟩
  have C5 := cx_step C1 hb5
  clear D1 C1 hb5 x0 x1 x2 x3 x4 x5 x6 x7
  cases b
  · obtain ⟨rfl, rfl⟩ := N0.out rfl
    go_wp2
    refine bodyPost_ret (v := .tuple #[.int .i64 0, .int .i64 0, .bool false]) (by simp [results, Try.results23, go_sem]) rfl ?_
    exact ⟨rfl, C5.out.bel⟩
  · obtain ⟨⟨x0, x1, x2, x3, x4, x5, x6, x7⟩, -⟩ := C5.out.tb.all
    have C5d := cx_step C5 (Below.refl w5.heap.size w5).drew
    have P51 : Hid (∀ W : World, Hid (Cx w W w.heap.size t d) → Calls Try.prog 49 #[d.val] W (Tells W (.int .i64 y))) := fun W h => D2.out W h rfl
    have P52 : Hid (∀ W : World, Hid (Cx w W w.heap.size t d) → Calls Try.prog 50 #[d.val] W (Tells W (.int .i64 z))) := fun W h => D3.out W h rfl
    unfold TD.val at P51 P52
    clear D2 D3 C5
    go_wp2_with fail
    go_region_held3 (fun w' => w'.cell? ⟨w.heap.size, 0, none⟩ = some (.int .i64 d.op) ∧ w'.cell? ⟨w.heap.size, 1, none⟩ = some (.int .u64 (uv (d.q 0))) ∧ w'.cell? ⟨w.heap.size, 2, none⟩ = some (.int .u64 (uv (d.q 1))) ∧ w'.cell? ⟨w.heap.size, 3, none⟩ = some (.int .u64 (uv (d.q 2))) ∧ w'.cell? ⟨w.heap.size, 4, none⟩ = some (.int .u64 (uv (d.q 3))) ∧ w'.cell? ⟨w.heap.size, 5, none⟩ = some (.int .i64 d.lo) ∧ w'.cell? ⟨w.heap.size, 6, none⟩ = some (.int .i64 d.hi) ∧ w'.cell? ⟨w.heap.size, 7, none⟩ = some (.slice d.A d.n d.c))
      (first | exact ⟨by assumption, by assumption, by assumption, by assumption, by assumption, by assumption, by assumption, by assumption⟩ | go_keep)
      (first
        | (go_at_call 49; refine (P51.out _ (by assumption)).mono ?_; rintro e w6 ⟨rfl, hb6⟩; have C6 := cx_step (by assumption) hb6; clear hb6; obtain ⟨⟨_, _, _, _, _, _, _, _⟩, -⟩ := C6.out.tb.all)
        | (go_at_call 50; refine (P52.out _ (by assumption)).mono ?_; rintro e w7 ⟨rfl, hb7⟩; have C7 := cx_step (by assumption) hb7; clear hb7; obtain ⟨⟨_, _, _, _, _, _, _, _⟩, -⟩ := C7.out.tb.all)
        | fail)
    all_goals
      clear P51 P52
      go_wp2
      refine bodyPost_ret (v := .tuple #[.int .i64 y, .int .i64 z, .bool true]) (by simp [results, Try.results23, go_sem]) rfl ?_
      exact ⟨rfl, C7.out.bel⟩
end Y
end Sp
end Go.Proofs.Ytkljagffccommaa
