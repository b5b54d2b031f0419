/- What the document's Least and Most go through, and its Least. -/
import Derived.Test.YtnaecagmcpndhaaX14
namespace Go.Proofs.Ytnaecagmcpndhaa
open Go.RowKit
def catLs : List Tm → Int → Int
  | [], z => z
  | k :: r, z => catLs r (plusF z (spanT k).l)
theorem catX_l : ∀ (l : List Tm) (x : Ex), x.a = true → allA l = true → (catX l x).l = catLs l x.l
  | [], x, _, _ => by rw [catX, catLs]
  | k :: r, x, hx, h => by
    rw [allA, Bool.and_eq_true] at h
    have e : thenF x (spanT k) = ⟨plusF x.l (spanT k).l, mostF plusF x.m (spanT k).m, true⟩ := by unfold thenF; rw [hx, h.1]; rfl
    rw [catX, catLs, e]
    exact catX_l r _ rfl h.2
/-- -1: none yet -/
def altLs : List Tm → Int → Int
  | [], z => z
  | k :: r, z => altLs r (if (spanT k).a then (if z < 0 ∨ (spanT k).l < z then (spanT k).l else z) else z)
theorem altX_l : ∀ (l : List Tm) (x : Ex), (∀ k ∈ l, 0 ≤ (spanT k).l) → 0 ≤ x.l → (altX l x).a = true → (altX l x).l = altLs l (if x.a then x.l else -1)
  | [], x, _, _, h => by rw [altX] at h ⊢; rw [altLs, if_pos h]
  | k :: r, x, hk, hx, h => by
    have h0 := hk k (by simp)
    rw [altX] at h ⊢
    rw [altX_l r _ (fun y hy => hk y (by simp [hy])) ?_ h, altLs]
    · congr 1
      unfold orF
      cases hxa : x.a <;> cases hya : (spanT k).a
      · simp [hya]
      · simp [hya]
      · simp [hxa]
      · simp
        by_cases hl : (spanT k).l < x.l
        · rw [if_pos (.inr hl), Int.min_eq_right (by omega)]
        · rw [if_neg (by omega), Int.min_eq_left (by omega)]
    · unfold orF
      split
      · split
        · show 0 ≤ min x.l (spanT k).l; omega
        · exact hx
      · exact h0
def catMs : List Tm → Int → Int
  | [], z => z
  | k :: r, z => if (spanT k).m < 0 then -1 else catMs r (plusF z (spanT k).m)
theorem catX_m : ∀ (l : List Tm) (x : Ex), x.a = true → allA l = true → Eo x → (∀ k ∈ l, Eo (spanT k)) → (catX l x).m = if x.m = -1 then -1 else catMs l x.m
  | [], x, _, _, _, _ => by rw [catX, catMs]; split <;> omega
  | k :: r, x, hx, h, ho, hk => by
    rw [allA, Bool.and_eq_true] at h
    have hy := hk k (by simp)
    have e : thenF x (spanT k) = ⟨plusF x.l (spanT k).l, mostF plusF x.m (spanT k).m, true⟩ := by unfold thenF; rw [hx, h.1]; rfl
    have eo := thenF_eo ho hy
    rw [catX, catMs]
    rw [e] at eo ⊢
    rw [catX_m r _ rfl h.2 eo (fun y hy => hk y (by simp [hy]))]
    show (if mostF plusF x.m (spanT k).m = -1 then -1 else catMs r (mostF plusF x.m (spanT k).m)) = _
    by_cases h1 : x.m = -1
    · rw [if_pos h1]
      have : mostF plusF x.m (spanT k).m = -1 := by unfold mostF; rw [if_pos (.inl h1)]
      rw [if_pos this]
    · rw [if_neg h1]
      by_cases h2 : (spanT k).m = -1
      · have : mostF plusF x.m (spanT k).m = -1 := by unfold mostF; rw [if_pos (.inr h2)]
        rw [if_pos this, if_pos (by omega)]
      · have s1 := ho.m.resolve_left h1
        have s2 := hy.m.resolve_left h2
        have s3 := plusF_sm s1 s2
        have : mostF plusF x.m (spanT k).m = plusF x.m (spanT k).m := by unfold mostF; rw [if_neg (by rintro (h | h); exact h1 h; exact h2 h)]
        unfold Sm at s2 s3
        rw [this, if_neg (by omega), if_neg (by omega)]
def altMs : List Tm → Int → Int
  | [], z => z
  | k :: r, z => if (spanT k).a then (if (spanT k).m < 0 then -1 else altMs r (if z < (spanT k).m then (spanT k).m else z)) else altMs r z
theorem altX_m : ∀ (l : List Tm) (x : Ex), Eo x → (x.a = false → x.m = 0) → (∀ k ∈ l, Eo (spanT k)) → (altX l x).m = if x.m = -1 then -1 else altMs l x.m
  | [], x, _, _, _ => by rw [altX, altMs]; split <;> omega
  | k :: r, x, ho, h0, hk => by
    have hy := hk k (by simp)
    have eo := orF_eo ho hy
    have e0 : (orF x (spanT k)).a = false → (orF x (spanT k)).m = 0 := by
      unfold orF
      cases hxa : x.a <;> cases hya : (spanT k).a
      · intro _; exact (span_no k hya).2
      · intro h; simp at h; rw [hya] at h; cases h
      · intro h; simp at h; rw [hxa] at h; cases h
      · intro h; simp at h
    rw [altX, altMs, altX_m r _ eo e0 (fun y hy => hk y (by simp [hy]))]
    clear eo e0
    have hm := ho.m; have hn := hy.m
    unfold Sm at hm hn
    unfold orF
    cases hxa : x.a <;> cases hya : (spanT k).a
    · have h1 := h0 hxa; have h2 := (span_no k hya).2
      simp [h1, h2]
    · have h1 := h0 hxa
      simp [h1]
      by_cases h2 : (spanT k).m = -1
      · rw [if_pos h2, if_pos (by omega)]
      · rw [if_neg h2, if_neg (by omega)]
        congr 1
        split <;> omega
    · simp
    · simp
      by_cases h1 : x.m = -1
      · have : mostF max x.m (spanT k).m = -1 := by unfold mostF; rw [if_pos (.inl h1)]
        rw [if_pos this, if_pos h1]
      · rw [if_neg h1]
        by_cases h2 : (spanT k).m = -1
        · have : mostF max x.m (spanT k).m = -1 := by unfold mostF; rw [if_pos (.inr h2)]
          rw [if_pos this, if_pos (by omega)]
        · have : mostF max x.m (spanT k).m = max x.m (spanT k).m := by unfold mostF; rw [if_neg (by rintro (h | h); exact h1 h; exact h2 h)]
          rw [this, if_neg (by omega), if_neg (by omega)]
          congr 1
          split <;> omega
theorem span6_l (f : Nat → Bool) (lo hi : Int) (ks : List Tm) (h : allA ks = true) : (spanT (.mk 6 f lo hi ks)).l = catLs ks 0 := by
  rw [spanT]; simp; exact catX_l ks _ rfl h
theorem span6_m (f : Nat → Bool) (lo hi : Int) (ks : List Tm) (h : allA ks = true) (hk : ∀ k ∈ ks, Eo (spanT k)) : (spanT (.mk 6 f lo hi ks)).m = catMs ks 0 := by
  rw [spanT]; simp; rw [catX_m ks _ rfl h (eo0 _) hk]; rfl
theorem span7_l (f : Nat → Bool) (lo hi : Int) (ks : List Tm) (h : anyA ks = true) (hk : ∀ k ∈ ks, Eo (spanT k)) : (spanT (.mk 7 f lo hi ks)).l = altLs ks (-1) := by
  rw [spanT]; simp; rw [altX_l ks _ (fun k h => (hk k h).l.1) (by show (0 : Int) ≤ 0; omega) (by rw [altX_a, h]; rfl)]; rfl
theorem span7_m (f : Nat → Bool) (lo hi : Int) (ks : List Tm) (hk : ∀ k ∈ ks, Eo (spanT k)) : (spanT (.mk 7 f lo hi ks)).m = altMs ks 0 := by
  rw [spanT]; simp; rw [altX_m ks _ (eo0 _) (fun _ => rfl) hk]; rfl
theorem allA_mem : ∀ (ks : List Tm) (k : Tm), allA ks = true → k ∈ ks → (spanT k).a = true
  | x :: r, k, h, hk => by
    rw [allA, Bool.and_eq_true] at h
    rcases List.mem_cons.1 hk with e | e
    · rw [e]; exact h.1
    · exact allA_mem r k h.2 e
set_option maxRecDepth 100000 in
set_option maxHeartbeats 2000000 in
theorem least_6 (f : Nat → Bool) (lo hi : Int) (ks : List Tm) (d : TD) (w : World) (ht : TR w (.mk 6 f lo hi ks) d) (hs : ∀ k ∈ ks, Sm (spanT k).l) (ih : ∀ k ∈ ks, ∀ (d : TD) (w : World), TR w k d → Calls Try.prog 51 #[d.val] w (Tells w (.int .i64 (spanT k).l))) : Calls Try.prog 51 #[d.val] w (Tells w (.int .i64 (catLs ks 0))) := by
  cases ht with
  | mk _ _ _ _ _ q A c ds hq hl hn hk hr =>
  obtain ⟨n, hnn⟩ : ∃ n, ks.length = n := ⟨_, rfl⟩
  rw [hnn] at hn ⊢
  have T1 : Hid (TB (w.alloc (.cells #[.int .i64 6, .int .u64 (uv (q 0)), .int .u64 (uv (q 1)), .int .u64 (uv (q 2)), .int .u64 (uv (q 3)), .int .i64 lo, .int .i64 hi, .slice A n c] 29)) w.heap.size ⟨6, q, lo, hi, A, n, c⟩) := TB.new w ⟨6, q, lo, hi, A, n, c⟩
  have B1 : Hid (Below w.heap.size w (w.alloc (.cells #[.int .i64 6, .int .u64 (uv (q 0)), .int .u64 (uv (q 1)), .int .u64 (uv (q 2)), .int .u64 (uv (q 3)), .int .i64 lo, .int .i64 hi, .slice A n c] 29))) := below_new w _
  obtain ⟨⟨x0, x1, x2, x3, x4, x5, x6, x7⟩, -⟩ := T1.out.all
  have IH := Lib.hid ih; have HK := Lib.hid hk; have HR := Lib.hid hr; have HL := Lib.hid hl; have HN := Lib.hid hnn; have HS := Lib.hid hs
  clear ih hk hr hl hnn hs
  unfold TD.val
  go_enter Try.func51, Try.ntmps51
  go_wp2_with fail
  go_loopw [3, 4] (fun u v wr => ∃ (i : Nat) (z : Int), i ≤ n ∧ u = .int .i64 z ∧ v = .int .i64 (i : Nat) ∧ Hid (Sm z ∧ catLs (ks.drop i) z = catLs ks 0) ∧ Hid (TB wr w.heap.size ⟨6, q, lo, hi, A, n, c⟩ ∧ Below w.heap.size w wr)) (fun _ v _ => n - (intOf v).toNat)
  case atStart => exact ⟨0, 0, Nat.zero_le _, rfl, rfl, ⟨sm0, by rw [List.drop_zero]⟩, ⟨T1.out, B1.out⟩⟩
  case round =>
    obtain ⟨i, z, hi1, rfl, rfl, hZ, hW⟩ := hrel
    clear T1 B1 x0 x1 x2 x3 x4 x5 x6 x7
    by_cases hlt : i < n
    · have qi : (i : Int) < (n : Int) := by omega
      have hi2 : i < ks.length := by have := HN.out; omega
      have hi4 : i < ds.length := by have h1 := HL.out; omega
      obtain ⟨kb1, off1, rfl, hb1, hc1⟩ := HR.out (by omega)
      obtain ⟨a0, a1, a2, a3, a4, a5, a6, a7⟩ := kid_cells hW.out.2 hb1 hc1 (List.getElem?_eq_getElem hi4)
      obtain ⟨⟨x0, x1, x2, x3, x4, x5, x6, x7⟩, -⟩ := hW.out.1.all
      have k1 := (HK.out i _ _ (List.getElem?_eq_getElem hi2) (List.getElem?_eq_getElem hi4)).keeps hW.out.2
      have kbl : kb1 < wr.heap.size := Nat.lt_of_lt_of_le hb1 hW.out.2.size
      have q6 : IntKind.i64.wrap ((i : Int) + 1) = ((i + 1 : Nat) : Int) := by rw [IntWalk.i64_in _ (by omega)]; omega
      have hm := List.getElem_mem hi2
      have zz : catLs (ks.drop (i + 1)) (plusF z (spanT ks[i]).l) = catLs ks 0 := by rw [← hZ.out.2, List.drop_eq_getElem_cons hi2, catLs]
      generalize ks[i] = kt at *
      generalize ds[i] = dt at *
      have D1 := Lib.hid (IH.out kt hm dt _ k1)
      have hsk := HS.out kt hm
      generalize (spanT kt).l = y at *
      have D2 := Lib.hid fun W => cap_any z y W hZ.out.1 hsk
      have Z2 : Hid (Sm (plusF z y) ∧ catLs (ks.drop (i + 1)) (plusF z y) = catLs ks 0) := ⟨plusF_sm hZ.out.1 hsk, zz⟩
      have q9 : IntKind.i64.wrap (z + y) = z + y := by have h1 := hZ.out.1; have h2 := hsk; unfold Sm at h1 h2; exact IntWalk.i64_in _ (by omega)
      have W2 := hW
      clear hc1 k1 hi2 hi4 hb1 zz hm hZ hW hsk
      unfold TD.val at D1
      go_wp2_with fail
      refine D1.out.mono ?_
      rintro e w5 ⟨rfl, hb5⟩
      have W5 : Hid (TB w5 w.heap.size ⟨6, q, lo, hi, some ⟨kb1, off1, none⟩, n, c⟩ ∧ Below w.heap.size w w5) := ⟨W2.out.1.below hb5, W2.out.2.trans (hb5.mono W2.out.2.size)⟩
      clear D1 W2 hb5 a0 a1 a2 a3 a4 a5 a6 a7 kbl x0 x1 x2 x3 x4 x5 x6 x7
      go_wp2_with fail
      refine (D2.out _).mono ?_
      rintro e w6 ⟨rfl, rfl⟩
      clear D2
      go_wp2_with fail
      go_roundw
      case rel => exact ⟨i + 1, _, by omega, rfl, by simp, Z2, W5⟩
      case measure => simp [intOf]; omega
    · have ez : z = catLs ks 0 := by rw [← hZ.out.2, List.drop_eq_nil_of_le (by have := HN.out; omega), catLs]
      subst ez
      obtain ⟨⟨x0, x1, x2, x3, x4, x5, x6, x7⟩, -⟩ := hW.out.1.all
      have qi : ¬ (i : Int) < (n : Int) := by omega
      clear hZ
      generalize catLs ks 0 = zl at *
      go_wp2
      go_ret
      exact ⟨rfl, hW.out.2⟩
set_option maxRecDepth 100000 in
set_option maxHeartbeats 2000000 in
theorem least_7 (f : Nat → Bool) (lo hi : Int) (ks : List Tm) (d : TD) (w : World) (ht : TR w (.mk 7 f lo hi ks) d) (ha : ∀ k ∈ ks, ∀ (d : TD) (w : World), TR w k d → Calls Try.prog 50 #[d.val] w (Tells w (.bool (spanT k).a))) (ih : ∀ k ∈ ks, (spanT k).a = true → ∀ (d : TD) (w : World), TR w k d → Calls Try.prog 51 #[d.val] w (Tells w (.int .i64 (spanT k).l))) : Calls Try.prog 51 #[d.val] w (Tells w (.int .i64 (altLs ks (-1)))) := by
  cases ht with
  | mk _ _ _ _ _ q A c ds hq hl hn hk hr =>
  obtain ⟨n, hnn⟩ : ∃ n, ks.length = n := ⟨_, rfl⟩
  rw [hnn] at hn ⊢
  have T1 : Hid (TB (w.alloc (.cells #[.int .i64 7, .int .u64 (uv (q 0)), .int .u64 (uv (q 1)), .int .u64 (uv (q 2)), .int .u64 (uv (q 3)), .int .i64 lo, .int .i64 hi, .slice A n c] 29)) w.heap.size ⟨7, q, lo, hi, A, n, c⟩) := TB.new w ⟨7, q, lo, hi, A, n, c⟩
  have B1 : Hid (Below w.heap.size w (w.alloc (.cells #[.int .i64 7, .int .u64 (uv (q 0)), .int .u64 (uv (q 1)), .int .u64 (uv (q 2)), .int .u64 (uv (q 3)), .int .i64 lo, .int .i64 hi, .slice A n c] 29))) := below_new w _
  obtain ⟨⟨x0, x1, x2, x3, x4, x5, x6, x7⟩, -⟩ := T1.out.all
  have IA := Lib.hid ha; have IH := Lib.hid ih; have HK := Lib.hid hk; have HR := Lib.hid hr; have HL := Lib.hid hl; have HN := Lib.hid hnn
  clear ih ha hk hr hl hnn
  unfold TD.val
  go_enter Try.func51, Try.ntmps51
  go_wp2_with fail
  go_loopw [3, 5] (fun u v wr => ∃ (i : Nat) (z : Int), i ≤ n ∧ u = .int .i64 z ∧ v = .int .i64 (i : Nat) ∧ Hid (altLs (ks.drop i) z = altLs ks (-1)) ∧ Hid (TB wr w.heap.size ⟨7, q, lo, hi, A, n, c⟩ ∧ Below w.heap.size w wr)) (fun _ v _ => n - (intOf v).toNat)
  case atStart => exact ⟨0, -1, Nat.zero_le _, rfl, rfl, (by show altLs (ks.drop 0) _ = _; rw [List.drop_zero]), ⟨T1.out, B1.out⟩⟩
  case round =>
    obtain ⟨i, z, hi1, rfl, rfl, hZ, hW⟩ := hrel
    clear T1 B1 x0 x1 x2 x3 x4 x5 x6 x7
    by_cases hlt : i < n
    · have qi : (i : Int) < (n : Int) := by omega
      have hi2 : i < ks.length := by have := HN.out; omega
      have hi4 : i < ds.length := by have h1 := HL.out; omega
      obtain ⟨kb1, off1, rfl, hb1, hc1⟩ := HR.out (by omega)
      obtain ⟨a0, a1, a2, a3, a4, a5, a6, a7⟩ := kid_cells hW.out.2 hb1 hc1 (List.getElem?_eq_getElem hi4)
      obtain ⟨⟨x0, x1, x2, x3, x4, x5, x6, x7⟩, -⟩ := hW.out.1.all
      have k1 := (HK.out i _ _ (List.getElem?_eq_getElem hi2) (List.getElem?_eq_getElem hi4)).keeps hW.out.2
      have kbl : kb1 < wr.heap.size := Nat.lt_of_lt_of_le hb1 hW.out.2.size
      have q6 : IntKind.i64.wrap ((i : Int) + 1) = ((i + 1 : Nat) : Int) := by rw [IntWalk.i64_in _ (by omega)]; omega
      have hm := List.getElem_mem hi2
      have zz : Hid (altLs (ks.drop (i + 1)) (if (spanT ks[i]).a then (if z < 0 ∨ (spanT ks[i]).l < z then (spanT ks[i]).l else z) else z) = altLs ks (-1)) := by show altLs _ _ = _; rw [← hZ.out, List.drop_eq_getElem_cons hi2, altLs]
      have hge := List.getElem?_eq_getElem hi4
      generalize ks[i] = kt at *
      generalize ds[i] = dt at *
      have D1 := Lib.hid (IA.out kt hm dt _ k1)
      have D2 := Lib.hid (IH.out kt hm)
      have K1 := Lib.hid k1
      have HC := Lib.hid hc1
      have HG := Lib.hid hge
      have W2 := hW
      clear hc1 k1 hi2 hi4 hm hZ hW hge
      generalize (spanT kt).a = b at *
      generalize (spanT kt).l = y at *
      unfold TD.val at D1
      go_wp2_with fail
      refine D1.out.mono ?_
      rintro e w5 ⟨rfl, hb5⟩
      have W5 : Hid (TB w5 w.heap.size ⟨7, q, lo, hi, some ⟨kb1, off1, none⟩, n, c⟩ ∧ Below w.heap.size w w5) := ⟨W2.out.1.below hb5, W2.out.2.trans (hb5.mono W2.out.2.size)⟩
      have K5 := Lib.hid (K1.out.keeps hb5)
      clear D1 W2 hb5 a0 a1 a2 a3 a4 a5 a6 a7 kbl x0 x1 x2 x3 x4 x5 x6 x7 K1
      cases b
      · clear D2 HC HG K5
        rw [if_neg (by decide)] at zz
        go_wp2_with fail
        go_roundw
        case rel => exact ⟨i + 1, z, by omega, rfl, by simp, zz, W5⟩
        case measure => simp [intOf]; omega
      · have D3 := Lib.hid (D2.out rfl dt _ K5.out)
        obtain ⟨a0, a1, a2, a3, a4, a5, a6, a7⟩ := kid_cells W5.out.2 hb1 HC.out HG.out
        obtain ⟨⟨x0, x1, x2, x3, x4, x5, x6, x7⟩, -⟩ := W5.out.1.all
        have kbl : kb1 < w5.heap.size := Nat.lt_of_lt_of_le hb1 W5.out.2.size
        clear D2 HC HG K5 hb1
        unfold TD.val at D3
        rw [if_pos rfl] at zz
        go_wp2_with fail
        refine D3.out.mono ?_
        rintro e w6 ⟨rfl, hb6⟩
        have W6 : Hid (TB w6 w.heap.size ⟨7, q, lo, hi, some ⟨kb1, off1, none⟩, n, c⟩ ∧ Below w.heap.size w w6) := ⟨W5.out.1.below hb6, W5.out.2.trans (hb6.mono W5.out.2.size)⟩
        clear D3 W5 hb6 a0 a1 a2 a3 a4 a5 a6 a7 kbl x0 x1 x2 x3 x4 x5 x6 x7
        by_cases z0 : z < 0
        · rw [if_pos (.inl z0)] at zz
          go_wp2_with fail
          go_roundw
          case rel => exact ⟨i + 1, y, by omega, rfl, by simp, zz, W6⟩
          case measure => simp [intOf]; omega
        · by_cases z1 : y < z
          · rw [if_pos (.inr z1)] at zz
            go_wp2_with fail
            go_roundw
            case rel => exact ⟨i + 1, y, by omega, rfl, by simp, zz, W6⟩
            case measure => simp [intOf]; omega
          · rw [if_neg (by rintro (h | h); exact z0 h; exact z1 h)] at zz
            go_wp2_with fail
            go_roundw
            case rel => exact ⟨i + 1, z, by omega, rfl, by simp, zz, W6⟩
            case measure => simp [intOf]; omega
    · have ez : z = altLs ks (-1) := by rw [← hZ.out, List.drop_eq_nil_of_le (by have := HN.out; omega), altLs]
      subst ez
      obtain ⟨⟨x0, x1, x2, x3, x4, x5, x6, x7⟩, -⟩ := hW.out.1.all
      have qi : ¬ (i : Int) < (n : Int) := by omega
      clear hZ
      generalize altLs ks (-1) = zl at *
      go_wp2
      go_ret
      exact ⟨rfl, hW.out.2⟩
end Go.Proofs.Ytnaecagmcpndhaa
