/- The stable sort, second part; a choice sorts any row; what Simple makes of any term. -/
import Derived.Test.YtkljagffccommaaZA
import Derived.Deep.DeepCutAuto

/- Two sorted stretches side by side are merged. -/
namespace Go.Proofs.Ytkljagffccommaa
open Go.RowKit Go.Sort

set_option maxRecDepth 100000 in
set_option maxHeartbeats 16000000 in
theorem sym3_any (g p n cp a m b : Nat) (c : Nat → Nat → Int) (w0 : World) (HC : CmpC w0 g n p c) (ho : OrdC c) (hn : n ≤ 1000000) (ham : a + 1 < m) (hmb : m + 1 < b) (hb : b ≤ n)
    (IH : ∀ a' m' b', a' < m' → m' < b' → b' ≤ n → b' - a' < b - a → Sym g n p cp c w0 a' m' b') : Sym g n p cp c w0 a m b := by
  intro d w hS hL hR hp
  have hcf : ∀ args w, (callFunc 90 args).run Try.prog w = .ok (.enter 90 args) w := fun args W => by kernel_rfl
  have S0 := Lib.hid hS; have HCC := Lib.hid HC; have HIH := Lib.hid IH
  obtain ⟨ma, hma⟩ : ∃ x, m - a = x := ⟨_, rfl⟩
  obtain ⟨bm, hbm⟩ : ∃ x, b - m = x := ⟨_, rfl⟩
  have q0 : IntKind.i64.wrap ((m : Int) - (a : Int)) = (ma : Int) := by rw [IntWalk.i64_in _ (by omega)]; omega
  have q00 : ((ma : Int) == 1) = false := by rw [beq_eq_false_iff_ne]; omega
  have q01 : IntKind.i64.wrap ((b : Int) - (m : Int)) = (bm : Int) := by rw [IntWalk.i64_in _ (by omega)]; omega
  have q02 : ((bm : Int) == 1) = false := by rw [beq_eq_false_iff_ne]; omega
  obtain ⟨ab, hab⟩ : ∃ x, a + b = x := ⟨_, rfl⟩
  have q03 : IntKind.i64.wrap ((a : Int) + (b : Int)) = (ab : Int) := by rw [IntWalk.i64_in _ (by omega)]; omega
  have hab2 : ab ≤ 2000000 := by omega
  obtain ⟨mid, hmid⟩ : ∃ x, ab / 2 = x := ⟨_, rfl⟩
  have q04 : (ab : Int) / 2 = (mid : Int) := by omega
  obtain ⟨mm, hmm⟩ : ∃ x, mid + m = x := ⟨_, rfl⟩
  have q05 : IntKind.i64.wrap ((mid : Int) + (m : Int)) = (mm : Int) := by rw [IntWalk.i64_in _ (by omega)]; omega
  obtain ⟨pp, hpp⟩ : ∃ x, mm - 1 = x := ⟨_, rfl⟩
  have q06 : IntKind.i64.wrap ((mm : Int) - 1) = (pp : Int) := by rw [IntWalk.i64_in _ (by omega)]; omega
  have HM : Hid (a + 1 < m ∧ m + 1 < b ∧ b ≤ n ∧ n ≤ 1000000 ∧ mid = (a + b) / 2 ∧ mm = mid + m ∧ pp = mid + m - 1) := ⟨ham, hmb, hb, hn, by omega, by omega, by omega⟩
  have HP := Lib.hid (And.intro hL (And.intro hR hp))
  obtain ⟨s0, hs0⟩ : ∃ x, symS m b mid a = x := ⟨_, rfl⟩
  obtain ⟨r0, hr0⟩ : ∃ x, symR m mid = x := ⟨_, rfl⟩
  have HSR := Lib.hid (And.intro hs0 hr0)
  have hle : Hid (s0 ≤ r0 ∧ r0 ≤ n) := by
    have h1 := hs0; have h2 := hr0
    unfold symS at h1
    unfold symR at h2
    show _ ∧ _
    by_cases q : mid < m
    · rw [if_pos q] at h1 h2; omega
    · rw [if_neg q] at h1 h2; omega
  clear hS HC IH hL hR hp hma hbm hab hs0 hr0 ham hmb hb hn hpp hmm hmid
  go_enter Try.func111, Try.ntmps111
  go_upto_if 140 with fail
  go_cut [20, 21] (fun vs vr wx => vs = .int .i64 (s0 : Nat) ∧ vr = .int .i64 (r0 : Nat) ∧ Hid (SI w0 wx g d n))
  case first =>
    by_cases hx : mid < m
    · have qx : (mid : Int) < (m : Int) := by omega
      have qs : IntKind.i64.wrap ((mm : Int) - (b : Int)) = (s0 : Int) := by
        have h := HSR.out.1
        unfold symS at h
        rw [if_pos hx] at h
        have := HM.out
        rw [IntWalk.i64_in _ (by omega)]; omega
      have er : Hid (mid = r0) := by
        have h := HSR.out.2
        unfold symR at h
        rw [if_pos hx] at h
        exact h
      go_wp2
      go_meet
      exact ⟨rfl, by rw [er.out], S0⟩
    · have qx : ¬ (mid : Int) < (m : Int) := by omega
      have es : Hid (a = s0) := by
        have h := HSR.out.1
        unfold symS at h
        rw [if_neg hx] at h
        exact h
      have er : Hid (m = r0) := by
        have h := HSR.out.2
        unfold symR at h
        rw [if_neg hx] at h
        exact h
      go_wp2
      go_meet
      exact ⟨by rw [es.out], by rw [er.out], S0⟩
  case rest =>
    obtain ⟨rfl, rfl, S1⟩ := hcut
    clear S0 q0 q00 q01 q02 q03 q04 q05
    go_wp2_with fail
    go_loopw [20, 21] (fun vs vr wr => ∃ s r : Nat, s0 ≤ s ∧ s ≤ r ∧ r ≤ r0 ∧ vs = .int .i64 (s : Nat) ∧ vr = .int .i64 (r : Nat) ∧ Hid (SI w0 wr g d n) ∧ Hid (bs (symP c (at_ d) (mid + m - 1)) s r = bs (symP c (at_ d) (mid + m - 1)) s0 r0)) (fun vs vr _ => (intOf vr).toNat - (intOf vs).toNat)
    case atStart => exact ⟨s0, r0, Nat.le_refl _, hle.out.1, Nat.le_refl _, rfl, rfl, S1, rfl⟩
    case round =>
      obtain ⟨s, r, hs1, hsr, hr1, rfl, rfl, S2, HB⟩ := hrel
      clear S1 q06
      by_cases hij : s < r
      · have qi : (s : Int) < (r : Int) := by omega
        have hln := hle.out.2
        have hm := HM.out
        obtain ⟨t, ht⟩ : ∃ t, s + r = t := ⟨_, rfl⟩
        have qt : IntKind.i64.wrap ((s : Int) + (r : Int)) = (t : Int) := by rw [IntWalk.i64_in _ (by omega)]; omega
        have ht2 : t ≤ 2000000 := by omega
        obtain ⟨h, hh⟩ : ∃ h, t / 2 = h := ⟨_, rfl⟩
        have qh : (t : Int) / 2 = (h : Int) := by omega
        have hhi : s ≤ h := by omega
        have hhj : h < r := by omega
        obtain ⟨k1, k2, k3, k4⟩ := sym_in (a := a) (m := m) (b := b) (mid := mid) (x := h) (by omega) (by omega) hm.2.2.2.2.1 (by rw [HSR.out.1]; omega) (by rw [HSR.out.2]; omega)
        obtain ⟨ph, hph⟩ : ∃ x, mid + m - 1 - h = x := ⟨_, rfl⟩
        have qph : IntKind.i64.wrap ((pp : Int) - (h : Int)) = (ph : Int) := by rw [IntWalk.i64_in _ (by omega)]; omega
        have hhn : h < n := by omega
        have hpn : ph < n := by omega
        have qhn : (h : Int) < (n : Int) := by omega
        have qpn : (ph : Int) < (n : Int) := by omega
        have q1 : IntKind.i64.wrap ((h : Int) + 1) = ((h + 1 : Nat) : Int) := by rw [IntWalk.i64_in _ (by omega)]; omega
        have HS := bs_go (P := symP c (at_ d) (mid + m - 1)) hij (h := h) (by omega)
        have HB2 := HB.out
        rw [HS] at HB2
        have c1 := S2.out.cell h hhn
        have c2 := S2.out.cell ph hpn
        have D1 := Lib.hid (HCC.out wr.drew S2.out.kp.drew d[ph]! d[h]! (S2.out.lt ph hpn) (S2.out.lt h hhn))
        have S3 := Lib.hid S2.out.drew
        have eP : symP c (at_ d) (mid + m - 1) h = !decide (c d[ph]! d[h]! < 0) := by unfold symP ltC at_; rw [hph]
        rw [eP] at HB2
        generalize d[h]! = xh at *
        generalize d[ph]! = xp at *
        obtain ⟨z, hz⟩ : ∃ z, c xp xh = z := ⟨_, rfl⟩
        rw [hz] at D1 HB2
        clear hz eP HS HB S2 ht hh hhn hpn hph k1 k2 k3 k4 hln hm
        by_cases hx : z < 0
        · rw [if_neg (by simp [hx])] at HB2
          have B2 := Lib.hid HB2
          clear HB2
          go_wp2_with fail
          go_still_tail 11, (by kernel_rfl)
          change wpList _ _ _ _ _ wr.drew
          clear c1 c2
          generalize wr.drew = wd at *
          go_wp2_with fail
          refine D1.out.mono ?_
          rintro e w5 ⟨rfl, hb5⟩
          have S5 := Lib.hid (S3.out.below hb5)
          clear D1 hb5 S3
          go_wp2_with fail
          go_roundw
          case rel => exact ⟨s, h, hs1, by omega, by omega, rfl, rfl, S5, B2⟩
          case measure => simp [intOf]; omega
        · rw [if_pos (by simp [hx])] at HB2
          have B2 := Lib.hid HB2
          have qx : decide (z < 0) = false := decide_eq_false hx
          clear HB2
          go_wp2_with fail
          go_still_tail 11, (by kernel_rfl)
          change wpList _ _ _ _ _ wr.drew
          clear c1 c2
          generalize wr.drew = wd at *
          go_wp2_with fail
          refine D1.out.mono ?_
          rintro e w5 ⟨rfl, hb5⟩
          have S5 := Lib.hid (S3.out.below hb5)
          clear D1 hb5 S3
          go_wp2_with fail
          go_roundw
          case rel => exact ⟨h + 1, r, by omega, by omega, hr1, by simp, rfl, S5, B2⟩
          case measure => simp [intOf]; omega
      · have qi : ¬ (s : Int) < (r : Int) := by omega
        have hm := HM.out
        have hs : s = bs (symP c (at_ d) (mid + m - 1)) (symS m b mid a) (symR m mid) := by rw [HSR.out.1, HSR.out.2, ← HB.out, bs_end hij]
        obtain ⟨h1, h2, h3, h4, h5, -, -⟩ := sym_search c (at_ d) (a := a) (m := m) (b := b) (mid := mid) (s := s) (by omega) (by omega) hm.2.2.2.2.1 hs
        obtain ⟨e, he⟩ : ∃ x, mid + m - s = x := ⟨_, rfl⟩
        have qe : IntKind.i64.wrap ((mm : Int) - (s : Int)) = (e : Int) := by rw [IntWalk.i64_in _ (by omega)]; omega
        have HE : Hid (a ≤ s ∧ s ≤ m ∧ m ≤ e ∧ e ≤ b ∧ s + (e - m) = mid ∧ a ≤ mid ∧ mid ≤ b ∧ s ≤ mid ∧ mid ≤ e ∧ mid < b ∧ a < mid) := by
          rw [← he]
          exact ⟨h1, h2, h3, h4, h5, by omega, by omega, by omega, by omega, by omega, by omega⟩
        have MG : (∀ g' : Array Nat, Rot s m e (at_ d) (at_ g') → PermIn a b d g' → Mg c a b s mid e d g') := fun g' hr hpm => by
          rw [← he] at hr ⊢
          exact mg_of ho S2.out.sz (by omega) (by omega) hm.2.2.1 hm.2.2.2.2.1 HP.out.1 HP.out.2.1 HP.out.2.2 hs hr hpm
        have SZ := Lib.hid S2.out.sz
        have hh : Hm n a m b mid s e := ⟨hm.1, hm.2.1, hm.2.2.1, hm.2.2.2.1, HE.out.1, HE.out.2.1, HE.out.2.2.1, HE.out.2.2.2.1, HE.out.2.2.2.2.1, HE.out.2.2.2.2.2.1, HE.out.2.2.2.2.2.2.1, HE.out.2.2.2.2.2.2.2.1, HE.out.2.2.2.2.2.2.2.2.1, HE.out.2.2.2.2.2.2.2.2.2.1, HE.out.2.2.2.2.2.2.2.2.2.2⟩
        have TL := Lib.hid (sym_tail g p n cp a m b mid s e c w0 hh d S2.out.sz HIH.out MG)
        clear hs h1 h2 h3 h4 h5 he HB hsr hr1 hs1 hm MG hh HE
        go_upto_region 38 with fail
        go_cut [24] (fun v wx => v = .int .i64 (e : Nat) ∧ Hid (SI w0 wx g d n))
        case first =>
          go_wp2
          go_meet
          exact ⟨rfl, S2⟩
        case rest =>
        obtain ⟨rfl, S3⟩ := hcut
        go_step
        refine TL.out _ (fun w' d' k1 k2 k3 => ⟨rfl, d', k1, k2, k3⟩) _ _ _ _ _ _ _ _ _ _ _ _ _ _ _ _ _ _ _ _ _ _ _ _ _ _ _ _ _ _ _ _ _ _ _ _ _ _ _ _ _ _ _ _ _ _ _ _ _ _ _ _ _ _ _ _ _ _ _ _ _ _ _ _ _ _ _ _ _ _ _ _ _ _ _ _ _ _ _ _ _ _ _ _ _ _ _ _ _ _ _ _ _ _ _ _ _ _ _ _ _ _ _ _ _ _ _ _ _ _ _ _ _ _ _ _ _ _ _ _ _ _ _ _ _ _ _ _ _ _ _ _ _ _ _ _ _ _ _ _ _ _ _ _ _ _ _ _ _ _ _ _ _ _ _ _ _ _ _ _ _ _ _ _ _ _ _ _ _ _ _ _ _ _ _ _ _ _ _ _ _ _ _ _ _ _ _ _ _ _ _ _ _ _ _ _ _ _ _ _ _ _ _ _ _ _ _ _ _ _ _ _ _ S3.out
end Go.Proofs.Ytkljagffccommaa

/- Merging, at all lengths; blocks sorted by insertion: pure. -/
namespace Go.Proofs.Ytkljagffccommaa
open Go.RowKit Go.Sort

theorem sym_any (g n p cp : Nat) (c : Nat → Nat → Int) (w0 : World) (HC : CmpC w0 g n p c) (ho : OrdC c) (hn : n ≤ 1000000) : ∀ k a m b : Nat, b - a = k → a < m → m < b → b ≤ n → Sym g n p cp c w0 a m b := by
  intro k
  induction k using Nat.strongRecOn with
  | _ k ih =>
    intro a m b hk ham hmb hb
    by_cases h1 : m = a + 1
    · intro d w hS hL hR hp
      exact sym1_any g p n cp a m b c w0 HC ho hn h1 hmb hb d w hS hR hp
    · by_cases h2 : b = m + 1
      · intro d w hS hL hR hp
        exact sym2_any g p n cp a m b c w0 HC ho hn ham h1 h2 hb d w hS hL hp
      · exact sym3_any g p n cp a m b c w0 HC ho hn (by omega) (by omega) hb fun a' m' b' x1 x2 x3 x4 => ih (b' - a') (by omega) a' m' b' rfl x1 x2 x3

theorem inner_sameA (lt lt' : Nat → Nat → Bool) (a : Nat) : ∀ (j : Nat) (d : Array Nat), j < d.size → (∀ q, a ≤ q → q < j → lt d[j]! d[q]! = lt' d[j]! d[q]!) → insInner lt a j d = insInner lt' a j d
  | 0, _, _, _ => rfl
  | j + 1, d, hj, h => by
    rw [insInner, insInner]
    by_cases ha : a < j + 1
    · rw [h j (by omega) (by omega)]
      split
      · obtain ⟨e1, e2⟩ := get_swp d j hj
        apply inner_sameA lt lt' a j
        · rw [swp_size]; omega
        · intro q hq hqj
          rw [e1, e2 q hqj]
          exact h q hq (by omega)
      · rfl
    · rw [if_neg (by simp; omega), if_neg (by simp; omega)]
theorem outer_sameA {c : Nat → Nat → Int} (h : OrdC c) (a n : Nat) : ∀ (m i : Nat) (d : Array Nat), n - i = m → n ≤ d.size → a < i → SortedIn (ltP c) a i d → (∀ q, i ≤ q → q < n → d[q]! = q) → (∀ q, a ≤ q → q < i → q < n → d[q]! < i) → insOuter (ltC c) a n i d = insOuter (ltP c) a n i d
  | 0, i, d, hm, _, _, _, _, _ => by
    have e1 : ∀ lt : Nat → Nat → Bool, insOuter lt a n i d = d := fun lt => by rw [insOuter, if_neg (by omega)]
    rw [e1, e1]
  | m + 1, i, d, hm, hs, h0, hso, hhi, hlo => by
    have hi : i < n := by omega
    have e1 : ∀ lt : Nat → Nat → Bool, insOuter lt a n i d = insOuter lt a n (i + 1) (insInner lt a i d) := fun lt => by rw [insOuter, if_pos hi]
    rw [e1, e1]
    have e : insInner (ltC c) a i d = insInner (ltP c) a i d := by
      apply inner_sameA _ _ _ _ _ (by omega)
      intro q hq hqi
      rw [hhi i (Nat.le_refl _) hi]
      have := hlo q hq hqi (by omega)
      unfold ltC ltP
      exact decide_eq_decide.2 ⟨fun x => .inl x, fun x => x.elim id fun y => by omega⟩
    rw [e]
    obtain ⟨hp, hso'⟩ := insInner_spec (ltP_swo h) swp_permIn permIn_refl permIn_trans a (i + 1) i (by omega) i d (by omega) (Nat.le_refl _) (by omega) ⟨fun p q hap hpq hqi _ hq => hso p q hap hpq (by omega), fun q h1 h2 => by omega⟩
    apply outer_sameA h a n m (i + 1) _ (by omega) (by rw [hp.1]; omega) (by omega) hso'
    · intro q hq hqn
      rw [hp.2.1 q (.inr hq)]
      exact hhi q (by omega) hqn
    · intro q hqa hq hqn
      exact permIn_all d _ a (i + 1) (fun x => x < i + 1) (by omega) hp (fun p hp1 hp2 => by
        by_cases e : p = i
        · rw [e, hhi i (Nat.le_refl _) hi]; omega
        · have := hlo p hp1 (by omega) (by omega); omega) q hqa hq
theorem block_sorted {c : Nat → Nat → Int} (h : OrdC c) (d : Array Nat) (a b : Nat) (hab : a ≤ b) (hb : b ≤ d.size) (hid : ∀ q, a ≤ q → q < b → at_ d q = q) :
    PermIn a b d (insertionSort (ltC c) d a b) ∧ Asc c a b (at_ (insertionSort (ltC c) d a b)) ∧ InB a b (at_ (insertionSort (ltC c) d a b)) := by
  have hid' : ∀ q, a ≤ q → q < b → d[q]! = q := hid
  have e : insertionSort (ltC c) d a b = insertionSort (ltP c) d a b := by
    unfold insertionSort
    exact outer_sameA h a b (b - (a + 1)) (a + 1) d rfl hb (by omega) (fun i j h1 h2 h3 => by omega) (fun q h1 h2 => hid' q (by omega) h2) (fun q h1 h2 h3 => by rw [hid' q h1 h3]; omega)
  rw [e]
  obtain ⟨hp, hs⟩ := insertionSort_holds (ltP_swo h) d a b hab hb
  generalize insertionSort (ltP c) d a b = d' at hp hs
  have hB : InB a b (at_ d') := InB.perm (d := d) (fun i hi hib => by show a ≤ d[i]! ∧ d[i]! < b; rw [hid' i hi hib]; exact ⟨hi, hib⟩) hb hp
  refine ⟨hp, sorted_asc h hs (fun i j hi hij hj => ?_), hB⟩
  have hl0 : (d.extract a b).toList.length = b - a := by simp; omega
  have h1 : (d.extract a b).toList.Nodup := by
    refine List.pairwise_iff_getElem.2 fun x y hx hy hxy => ?_
    rw [hl0] at hx hy
    simp only [Array.getElem_toList, Array.getElem_extract]
    intro e
    have e1 := hid' (a + x) (by omega) (by omega)
    have e2 := hid' (a + y) (by omega) (by omega)
    rw [getElem!_pos d _ (by omega)] at e1 e2
    omega
  have h2 : (d'.extract a b).toList.Nodup := hp.2.2.nodup_iff.2 h1
  have hsz : d'.size = d.size := hp.1
  intro e
  have hl : (d'.extract a b).toList.length = b - a := by simp; omega
  have e3 : (d'.extract a b).toList[i - a]'(by rw [hl]; omega) = (d'.extract a b).toList[j - a]'(by rw [hl]; omega) := by
    simp only [Array.getElem_toList, Array.getElem_extract]
    rw [getElem!_pos d' _ (by omega), getElem!_pos d' _ (by omega)] at e
    simp only [show a + (i - a) = i by omega, show a + (j - a) = j by omega, e]
  have := (List.getElem_inj h2).1 e3
  omega
end Go.Proofs.Ytkljagffccommaa

/- The stable sort's passes: what holds of the blocks: pure. -/
namespace Go.Proofs.Ytkljagffccommaa
open Go.RowKit Go.Sort

/-- sorted, and nothing from elsewhere -/
def Bl (c : Nat → Nat → Int) (a b : Nat) (d : Array Nat) : Prop := Asc c a b (at_ d) ∧ InB a b (at_ d)
theorem Bl.same {c : Nat → Nat → Int} {a b x y : Nat} {d d' : Array Nat} (h : Bl c a b d) (hp : PermIn x y d d') (ho : b ≤ x ∨ y ≤ a) : Bl c a b d' := by
  have e : ∀ i, a ≤ i → i < b → at_ d' i = at_ d i := fun i h1 h2 => perm_at hp i (by omega)
  exact ⟨h.1.same e, h.2.same e⟩
theorem mul_next {m k S : Nat} (h : m < k) : m * S + S ≤ k * S := by
  have := Nat.mul_le_mul_right S (show m + 1 ≤ k from h)
  rwa [Nat.succ_mul] at this
/-- while blocks of twenty are sorted -/
structure Pa (c : Nat → Nat → Int) (n k a : Nat) (d0 d : Array Nat) : Prop where
  ha : a = k * 20
  blk : ∀ m, m < k → Bl c (m * 20) (m * 20 + 20) d
  rest : ∀ q, a ≤ q → q < n → at_ d q = q
  perm : PermIn 0 n d0 d
/-- while blocks of s become blocks of twice as many -/
structure Mp (c : Nat → Nat → Int) (n s k a : Nat) (d0 d : Array Nat) : Prop where
  ha : a = k * (s + s)
  big : ∀ m, m < k → Bl c (m * (s + s)) (m * (s + s) + (s + s)) d
  sml : ∀ m, a + m * s < n → Bl c (a + m * s) (min (a + m * s + s) n) d
  perm : PermIn 0 n d0 d
section
variable {c : Nat → Nat → Int} (ho : OrdC c) {n : Nat} {d0 : Array Nat} (h0 : d0.size = n)
include ho h0
theorem Pa.step {k a : Nat} {d : Array Nat} (h : Pa c n k a d0 d) (hk : a + 20 ≤ n) : Pa c n (k + 1) (a + 20) d0 (insertionSort (ltC c) d a (a + 20)) := by
  have hd : d.size = n := h.perm.1.trans h0
  obtain ⟨hp, h1, h2⟩ := block_sorted ho d a (a + 20) (by omega) (by omega) (fun q x y => h.rest q x (by omega))
  refine ⟨by rw [h.ha, Nat.succ_mul], fun m hm => ?_, fun q x y => ?_, permIn_trans d0 d _ 0 n h.perm (permIn_mono d _ a (a + 20) 0 n (by omega) hk (by omega) hp)⟩
  · rcases Nat.lt_or_ge m k with q | q
    · have := mul_next (S := 20) q
      exact (h.blk m q).same hp (.inl (by rw [h.ha]; exact this))
    · obtain rfl : m = k := by omega
      rw [← h.ha]; exact ⟨h1, h2⟩
  · rw [perm_at hp q (.inr x)]; exact h.rest q (by omega) y
theorem Pa.last {k a : Nat} {d : Array Nat} (h : Pa c n k a d0 d) (ha : a ≤ n) (hk : ¬ a + 20 ≤ n) : Mp c n 20 0 0 d0 (insertionSort (ltC c) d a n) := by
  have hd : d.size = n := h.perm.1.trans h0
  obtain ⟨hp, h1, h2⟩ := block_sorted ho d a n ha (by omega) (fun q x y => h.rest q x y)
  refine ⟨by omega, fun m hm => by omega, fun m hm => ?_, permIn_trans d0 d _ 0 n h.perm (permIn_mono d _ a n 0 n (by omega) (Nat.le_refl _) (by omega) hp)⟩
  rw [Nat.zero_add] at hm ⊢
  rcases Nat.lt_or_ge m k with q | q
  · have := mul_next (S := 20) q
    rw [Nat.min_eq_left (by have := h.ha; omega)]
    exact (h.blk m q).same hp (.inl (by rw [h.ha]; exact this))
  · have hm2 : m = k := by
      rcases Nat.eq_or_lt_of_le q with e | e
      · exact e.symm
      · have := mul_next (S := 20) e; have := h.ha; omega
    subst hm2
    rw [← h.ha, Nat.min_eq_right (by omega)]
    exact ⟨h1, h2⟩
omit ho h0 in
theorem Mp.two {s k a : Nat} {d : Array Nat} (h : Mp c n s k a d0 d) (hs : 0 < s) {b : Nat} (hab : a + s < b) (hb : b ≤ n) (hb2 : b = min (a + s + s) n) : Asc c a (a + s) (at_ d) ∧ Asc c (a + s) b (at_ d) ∧ Lft a (a + s) b (at_ d) ∧ InB a b (at_ d) := by
  have h1 := h.sml 0 (by omega)
  have h2 := h.sml 1 (by rw [Nat.one_mul]; omega)
  rw [Nat.zero_mul, Nat.add_zero, Nat.min_eq_left (by omega)] at h1
  rw [Nat.one_mul, ← hb2] at h2
  exact ⟨h1.1, h2.1, h1.2.lft h2.2, h1.2.join h2.2 (by omega) (by omega)⟩
omit ho in
theorem Mp.step {s k a : Nat} {d d' : Array Nat} (h : Mp c n s k a d0 d) (hs : 0 < s) (hb : a + (s + s) ≤ n) (hA : Asc c a (a + (s + s)) (at_ d')) (hp : PermIn a (a + (s + s)) d d') : Mp c n s (k + 1) (a + (s + s)) d0 d' := by
  have hd : d.size = n := h.perm.1.trans h0
  obtain ⟨_, _, _, hI⟩ := h.two hs (b := a + (s + s)) (by omega) hb (by omega)
  refine ⟨by rw [h.ha, Nat.succ_mul], fun m hm => ?_, fun m hm => ?_, permIn_trans d0 d _ 0 n h.perm (permIn_mono d _ a (a + (s + s)) 0 n (by omega) hb (by omega) hp)⟩
  · rcases Nat.lt_or_ge m k with q | q
    · have := mul_next (S := s + s) q
      exact (h.big m q).same hp (.inl (by rw [h.ha]; exact this))
    · obtain rfl : m = k := by omega
      rw [← h.ha]; exact ⟨hA, InB.perm (d := d) hI (by omega) hp⟩
  · have e : a + (s + s) + m * s = a + (m + 2) * s := by rw [Nat.add_mul]; omega
    have h2 := h.sml (m + 2) (by rw [← e]; exact hm)
    rw [← e] at h2
    exact h2.same hp (.inr (by omega))
omit ho in
/-- the last block of a pass was merged, too -/
theorem Mp.last {s k a : Nat} {d d' : Array Nat} (h : Mp c n s k a d0 d) (hs : 0 < s) (ha : a ≤ n) (hb : ¬ a + (s + s) ≤ n) (hB : a < n → Bl c a n d') (hp : PermIn a n d d') : Mp c n (s + s) 0 0 d0 d' := by
  have hd : d.size = n := h.perm.1.trans h0
  refine ⟨by omega, fun m hm => by omega, fun m hm => ?_, permIn_trans d0 d _ 0 n h.perm (permIn_mono d _ a n 0 n (by omega) (Nat.le_refl _) (by omega) hp)⟩
  rw [Nat.zero_add] at hm ⊢
  rcases Nat.lt_or_ge m k with q | q
  · have := mul_next (S := s + s) q
    rw [Nat.min_eq_left (by have := h.ha; omega)]
    exact (h.big m q).same hp (.inl (by rw [h.ha]; exact this))
  · have hm2 : m = k := by
      rcases Nat.eq_or_lt_of_le q with e | e
      · exact e.symm
      · have := mul_next (S := s + s) e; have := h.ha; omega
    subst hm2
    rw [← h.ha] at hm ⊢
    rw [Nat.min_eq_right (by omega)]
    exact hB hm
omit ho h0 in
theorem Mp.one {s k a : Nat} {d : Array Nat} (h : Mp c n s k a d0 d) (hs : ¬ a + s < n) : a < n → Bl c a n d := fun ha => by
  have h1 := h.sml 0 (by omega)
  rw [Nat.zero_mul, Nat.add_zero, Nat.min_eq_right (by omega)] at h1
  exact h1
omit ho in
theorem Mp.done {s : Nat} {d : Array Nat} (h : Mp c n s 0 0 d0 d) (hs : ¬ s < n) (hd0 : d0.toList = List.range n) : inOrd c d.toList ∧ d.toList.Perm (List.range n) := by
  have hd : d.size = n := h.perm.1.trans h0
  constructor
  · rcases Nat.eq_zero_or_pos n with e | e
    · have : d.toList = [] := by rw [← List.length_eq_zero_iff, Array.length_toList]; omega
      rw [this]; exact List.Pairwise.nil
    · have h1 := h.one (by omega) e
      have h2 := asc_ord h1.1
      have e2 : (List.range n).map (at_ d) = d.toList := by
        apply List.ext_getElem
        · simp [hd]
        · intro i x y
          simp at x y
          simp only [List.getElem_map, List.getElem_range, Array.getElem_toList]
          exact getElem!_pos d i (by omega)
      rw [e2] at h2; exact h2
  · have h1 := h.perm.2.2
    rw [show d.extract 0 n = d by rw [← hd]; simp, show d0.extract 0 n = d0 by rw [← h0]; simp, hd0] at h1
    exact h1
end
theorem Pa.zero {c : Nat → Nat → Int} {n : Nat} {d0 : Array Nat} (hd0 : d0.toList = List.range n) : Pa c n 0 0 d0 d0 := by
  refine ⟨by omega, fun m hm => by omega, fun q _ hq => ?_, permIn_refl d0 0 n⟩
  have hsz : d0.size = n := by rw [← Array.length_toList, hd0, List.length_range]
  show d0[q]! = q
  rw [getElem!_pos d0 q (by omega), ← Array.getElem_toList]
  simp [hd0]
end Go.Proofs.Ytkljagffccommaa

/- The stable sort, of however many. -/
namespace Go.Proofs.Ytkljagffccommaa
open Go.RowKit Go.Sort

set_option maxRecDepth 100000 in
set_option maxHeartbeats 16000000 in
theorem stable_any (g p n cp : Nat) (c : Nat → Nat → Int) (w0 : World) (HC : CmpC w0 g n p c) (ho : OrdC c) (hn : n ≤ 500000) (d : Array Nat) (w : World) (hd : d.toList = List.range n) (hS : SI w0 w g d n) :
    Calls Try.prog 103 #[.slice (some ⟨g, 0, none⟩) n cp, .int .i64 (n : Nat), .func (.func 90) #[] #[.pointer (some ⟨p, 0, none⟩)]] w
      fun e w' => e = .returned (.tuple #[]) ∧ ∃ d', SI w0 w' g d' n ∧ inOrd c d'.toList ∧ d'.toList.Perm (List.range n) := by
  have S0 := Lib.hid hS
  have H0 : Hid (d.size = n) := hS.sz
  have HI := Lib.hid fun (a b : Nat) (hab : a ≤ b) (hb : b ≤ n) (d : Array Nat) (w : World) (h : SI w0 w g d n) => insertion_any g p n a b cp c w0 HC (by omega) hab hb d w h
  have HY := Lib.hid fun (a m b : Nat) (h1 : a < m) (h2 : m < b) (h3 : b ≤ n) => sym_any g n p cp c w0 HC ho (by omega) (b - a) a m b rfl h1 h2 h3
  have HO := Lib.hid ho; have HD := Lib.hid hd
  have P0 := Lib.hid (Pa.zero (c := c) hd)
  clear hS HC ho hd
  go_enter Try.func103, Try.ntmps103
  go_wp2_with fail
  go_loopw [7, 8] (fun va vb wr => ∃ (k a b : Nat) (dk : Array Nat), a ≤ n ∧ va = .int .i64 (a : Nat) ∧ vb = .int .i64 (b : Nat) ∧ Hid (b = a + 20) ∧ Hid (SI w0 wr g dk n) ∧ Hid (Pa c n k a d dk)) (fun va _ _ => n + 20 - (intOf va).toNat)
  case atStart => exact ⟨0, 0, 20, d, by omega, by simp, by simp, rfl, S0, P0⟩
  case round =>
    obtain ⟨k, a, b, dk, han, rfl, rfl, hab, S1, P1⟩ := hrel
    clear S0 P0
    by_cases hlt : b ≤ n
    · have qb : (b : Int) ≤ (n : Int) := by omega
      have hab2 := hab.out
      obtain ⟨b2, hb2⟩ : ∃ b2, b + 20 = b2 := ⟨_, rfl⟩
      have qs : IntKind.i64.wrap ((b : Int) + 20) = (b2 : Int) := by rw [IntWalk.i64_in _ (by omega)]; omega
      have D1 := Lib.hid (HI.out a b (by omega) hlt dk wr S1.out)
      have P2 : Hid (Pa c n (k + 1) b d (insertionSort (ltC c) dk a b)) := by rw [hab2]; exact P1.out.step HO.out H0.out (by omega)
      have hb3 : Hid (b2 = b + 20 ∧ a < b) := ⟨hb2.symm, by omega⟩
      clear S1 P1 hab2 hb2
      go_wp2_with fail
      refine D1.out.mono ?_
      rintro e w5 ⟨rfl, h5⟩
      have S5 := Lib.hid h5
      clear D1 h5
      go_wp2_with fail
      go_roundw
      case rel => exact ⟨k + 1, b, b2, _, hlt, rfl, rfl, hb3.out.1, S5, P2⟩
      case measure => have := hb3.out; simp [intOf]; omega
    · have qb : ¬ (b : Int) ≤ (n : Int) := by omega
      have D1 := Lib.hid (HI.out a n han (Nat.le_refl _) dk wr S1.out)
      have M1 := Lib.hid (P1.out.last HO.out H0.out han (by have := hab.out; omega))
      generalize insertionSort (ltC c) dk a n = d1 at *
      clear S1 P1
      go_wp2_with fail
      refine D1.out.mono ?_
      rintro e w5 ⟨rfl, h5⟩
      have S5 := Lib.hid h5
      clear D1 h5
      go_wp2_with fail
      go_loopw [6] (fun v wr => ∃ (s : Nat) (dk : Array Nat), 0 < s ∧ v = .int .i64 (s : Nat) ∧ Hid (SI w0 wr g dk n) ∧ Hid (Mp c n s 0 0 d dk)) (fun v _ => n - (intOf v).toNat)
      case atStart => exact ⟨20, d1, by omega, by simp, S5, M1⟩
      case round =>
        obtain ⟨s, dk, hs0, rfl, S6, M6⟩ := hrel
        clear S5 M1
        by_cases hsn : s < n
        · have qsn : (s : Int) < (n : Int) := by omega
          obtain ⟨t, ht⟩ : ∃ t, s + s = t := ⟨_, rfl⟩
          have HT := Lib.hid ht
          have q2 : IntKind.i64.wrap (2 * (s : Int)) = (t : Int) := by rw [IntWalk.i64_in _ (by omega)]; omega
          have q3 : IntKind.i64.wrap ((s : Int) * 2) = (t : Int) := by rw [IntWalk.i64_in _ (by omega)]; omega
          clear ht
          go_wp2_with fail
          go_loopw [7, 8] (fun va vb wr => ∃ (k a b : Nat) (dj : Array Nat), a ≤ n ∧ va = .int .i64 (a : Nat) ∧ vb = .int .i64 (b : Nat) ∧ Hid (b = a + t) ∧ Hid (SI w0 wr g dj n) ∧ Hid (Mp c n s k a d dj)) (fun va _ _ => n + t - (intOf va).toNat)
          case atStart => exact ⟨0, 0, t, dk, by omega, by simp, rfl, by show t = 0 + t; omega, S6, M6⟩
          case round =>
            obtain ⟨k, a, b, dj, han, rfl, rfl, hab, S7, M7⟩ := hrel
            clear S6 M6
            have hab2 := hab.out
            have ht := HT.out
            obtain ⟨m, hm⟩ : ∃ m, a + s = m := ⟨_, rfl⟩
            have qm : IntKind.i64.wrap ((a : Int) + (s : Int)) = (m : Int) := by rw [IntWalk.i64_in _ (by omega)]; omega
            by_cases hlt2 : b ≤ n
            · have qb : (b : Int) ≤ (n : Int) := by omega
              obtain ⟨b2, hb2⟩ : ∃ b2, b + t = b2 := ⟨_, rfl⟩
              have qb2 : IntKind.i64.wrap ((b : Int) + (t : Int)) = (b2 : Int) := by rw [IntWalk.i64_in _ (by omega)]; omega
              obtain ⟨k1, k2, k3, k4⟩ := M7.out.two hs0 (b := b) (by omega) hlt2 (by omega)
              rw [hm] at k1 k2 k3
              have D2 := Lib.hid (HY.out a m b (by omega) (by omega) hlt2 dj wr S7.out k1 k2 k3)
              have M8 : Hid (∀ d5, Asc c a b (at_ d5) → PermIn a b dj d5 → Mp c n s (k + 1) b d d5) := fun d5 h1 h2 => by
                have e : b = a + (s + s) := by omega
                rw [e] at h1 h2 ⊢
                exact M7.out.step H0.out hs0 (by omega) h1 h2
              have hb3 : Hid (b2 = b + t ∧ a < b) := ⟨hb2.symm, by omega⟩
              clear S7 M7 hab2 hb2 k1 k2 k3 k4 hm ht
              go_wp2_with fail
              refine D2.out.mono ?_
              rintro e w5 ⟨rfl, d5, h5, h6, h7⟩
              have S8 := Lib.hid h5
              have M9 := Lib.hid (M8.out d5 h6 h7)
              clear D2 h5 h6 h7 M8
              go_wp2_with fail
              go_roundw
              case rel => exact ⟨k + 1, b, b2, d5, hlt2, rfl, rfl, hb3.out.1, S8, M9⟩
              case measure => have := hb3.out; simp [intOf]; omega
            · have qb : ¬ (b : Int) ≤ (n : Int) := by omega
              have hst : Hid (0 < t ∧ n - t < n - s) := ⟨by omega, by omega⟩
              by_cases hmn : m < n
              · have qmn : (m : Int) < (n : Int) := by omega
                obtain ⟨k1, k2, k3, k4⟩ := M7.out.two hs0 (b := n) (by omega) (Nat.le_refl _) (by omega)
                rw [hm] at k1 k2 k3
                have D2 := Lib.hid (HY.out a m n (by omega) hmn (Nat.le_refl _) dj wr S7.out k1 k2 k3)
                have M8 : Hid (∀ d5, Asc c a n (at_ d5) → PermIn a n dj d5 → Mp c n t 0 0 d d5) := fun d5 h1 h2 => by
                  have := M7.out.last H0.out hs0 han (by omega) (fun _ => ⟨h1, InB.perm (d := dj) k4 (by rw [S7.out.sz]; exact Nat.le_refl _) h2⟩) h2
                  rw [ht] at this
                  exact this
                clear S7 M7 hab2 k1 k2 k3 hm ht
                go_wp2_with fail
                refine D2.out.mono ?_
                rintro e w5 ⟨rfl, d5, h5, h6, h7⟩
                have S8 := Lib.hid h5
                have M9 := Lib.hid (M8.out d5 h6 h7)
                clear D2 h5 h6 h7 M8
                go_wp2_with fail
                go_roundw
                case rel => exact ⟨t, d5, hst.out.1, rfl, S8, M9⟩
                case measure => have := hst.out; simp [intOf]; omega
              · have qmn : ¬ (m : Int) < (n : Int) := by omega
                have M9 : Hid (Mp c n t 0 0 d dj) := by
                  have := M7.out.last H0.out hs0 han (by omega) (M7.out.one (by omega)) (permIn_refl dj a n)
                  rw [ht] at this
                  exact this
                clear M7 hab2 hm ht
                go_wp2_with fail
                go_roundw
                case rel => exact ⟨t, dj, hst.out.1, rfl, S7, M9⟩
                case measure => have := hst.out; simp [intOf]; omega
        · have qsn : ¬ (s : Int) < (n : Int) := by omega
          have F := Lib.hid (M6.out.done H0.out hsn HD.out)
          clear M6
          go_wp2
          go_end0
          exact ⟨rfl, dk, S6.out, F.out.1, F.out.2⟩

theorem sorts_any (n : Nat) (hn : n ≤ 500000) : Sorts n := by
  intro g p cp c w0 d w HC ho hd hS
  have D1 := Lib.hid (stable_any g p n cp c w0 HC ho hn d w hd hS)
  clear HC ho hd hS
  go_enter Try.func89, Try.ntmps89
  go_wp2_with fail
  refine D1.out.mono ?_
  rintro e w5 ⟨rfl, d5, h5, h6, h7⟩
  have S5 := Lib.hid (And.intro h5 (And.intro h6 h7))
  clear D1 h5 h6 h7
  go_wp2
  go_end0
  exact ⟨rfl, d5, S5.out.1, S5.out.2.1, S5.out.2.2⟩
end Go.Proofs.Ytkljagffccommaa

/- A small term's lists are not too long; what is made a row or a choice has two kids: pure. -/
namespace Go.Proofs.Ytkljagffccommaa
open Go.RowKit

/-- rows and choices have from two to n kids, and so have theirs -/
inductive Gk (n : Nat) : Tm → Prop
  | mk (op : Int) (f : Nat → Bool) (lo hi : Int) (ks : List Tm) (h : (op = 6 ∨ op = 7) → 2 ≤ ks.length ∧ ks.length ≤ n) (hk : (op = 6 ∨ op = 7) → ∀ k ∈ ks, Gk n k) : Gk n (.mk op f lo hi ks)
theorem Gk.leaf (n : Nat) (op : Int) (f : Nat → Bool) (lo hi : Int) (ks : List Tm) (h : ¬ (op = 6 ∨ op = 7)) : Gk n (.mk op f lo hi ks) := .mk _ _ _ _ _ (fun e => absurd e h) (fun e => absurd e h)
theorem Gk.le {n m : Nat} (t : Tm) : Gk n t → n ≤ m → Gk m t := by
  induction t using Tm.ind with
  | h op f lo hi ks ih =>
    intro h hnm
    cases h with
    | mk _ _ _ _ _ h hk => exact .mk _ _ _ _ _ (fun e => ⟨(h e).1, Nat.le_trans (h e).2 hnm⟩) (fun e k hkm => ih k hkm (hk e k hkm) hnm)
theorem Gk.two {n : Nat} {t : Tm} (h : Gk n t) (e : opOf t = 6 ∨ opOf t = 7) : 2 ≤ (kidsOf t).length ∧ (kidsOf t).length ≤ n := by cases h with | mk _ _ _ _ _ h hk => exact h e
theorem Gk.kids {n : Nat} {t : Tm} (h : Gk n t) (e : opOf t = 6 ∨ opOf t = 7) : ∀ k ∈ kidsOf t, Gk n k := by cases h with | mk _ _ _ _ _ h hk => exact hk e
theorem gk_around {n : Nat} (op : Int) (no : Int) (hop : op = 6 ∨ op = 7) (hno : ¬ (no = 6 ∨ no = 7)) : ∀ l : List Tm, l.length ≤ n → (∀ x ∈ l, Gk n x) → Gk n (around op l no)
  | [], _, _ => Gk.leaf n no noF 0 0 [] hno
  | [x], _, h => h x (by simp)
  | x :: y :: r, hl, h => .mk op noF 0 0 _ (fun _ => ⟨by simp, hl⟩) (fun _ => h)
theorem gk_join {n : Nat} (g : Nat → Bool) (t : Tm) (h : Gk n t) : Gk n (joinK g t) := by
  by_cases e : opOf t = 2
  · obtain ⟨op, f, lo, hi, ks⟩ := t
    obtain rfl : op = 2 := e
    exact Gk.leaf n 2 _ lo hi ks (by omega)
  · rw [joinK_no g t e]; exact h
theorem gk_joinS {n : Nat} (l : List Tm) (h : ∀ x ∈ l, Gk n x) : ∀ o : List Tm, (∀ x ∈ o, Gk n x) → ∀ x ∈ joinS o l, Gk n x := by
  induction l with
  | nil => exact fun o ho => ho
  | cons a r ih =>
    intro o ho
    refine ih (fun x hx => h x (by simp [hx])) (pushS o a) ?_
    unfold pushS
    split
    · intro x hx
      obtain ⟨y, hy, rfl⟩ := List.mem_map.1 hx
      exact gk_join _ y (ho y hy)
    · intro x hx
      rcases List.mem_append.1 hx with hx | hx
      · exact ho x hx
      · rw [List.mem_singleton.1 hx]; exact h a (by simp)
theorem mem_once (l : List Tm) : ∀ (o : List Tm) (x : Tm), x ∈ once o l → x ∈ o ∨ x ∈ l := by
  induction l with
  | nil => exact fun o x hx => .inl hx
  | cons a r ih =>
    intro o x hx
    rcases ih (push1 o a) x hx with h | h
    · unfold push1 at h
      split at h
      · exact .inl h
      · rcases List.mem_append.1 h with h | h
        · exact .inl h
        · exact .inr (by rw [List.mem_singleton.1 h]; simp)
    · exact .inr (by simp [h])
theorem gk_row {n : Nat} (l : List Tm) (hl : l.length ≤ n) (h : ∀ x ∈ l, Gk n x) : Gk n (sRow l) := by
  unfold sRow
  split
  · exact Gk.leaf n 9 noF 0 0 [] (by omega)
  · exact gk_around 6 1 (.inl rfl) (by omega) _ (Nat.le_trans (List.length_filter_le _ _) hl) (fun x hx => h x (List.mem_filter.1 hx).1)
theorem gk_cho {n : Nat} (l : List Tm) (hl : l.length ≤ n) (h : ∀ x ∈ l, Gk n x) : Gk n (sCho l) := by
  unfold sCho
  have h1 := List.length_filter_le (fun x => !isNo x) l
  have h2 := joinS_len (l.filter fun x => !isNo x) []
  have h3 := once_len (joinS [] (l.filter fun x => !isNo x)) []
  simp only [List.length_nil] at h2 h3
  refine gk_around 7 9 (.inr rfl) (by omega) _ (by omega) (fun x hx => ?_)
  rcases mem_once _ _ x hx with hx | hx
  · cases hx
  · exact gk_joinS _ (fun y hy => h y (List.mem_filter.1 hy).1) [] (fun y hy => by cases hy) x hx
theorem gk_one8 {n : Nat} (f : Nat → Bool) (lo hi : Int) (l : List Tm) (h : ∀ x ∈ l, Gk n x) : Gk n (one8 f lo hi l) := by
  have e8 : ∀ l, Gk n (.mk 8 f lo hi l) := fun l => Gk.leaf n 8 f lo hi l (by omega)
  match l with
  | [] => exact e8 []
  | [k] =>
    show Gk n (sRep f lo hi k)
    unfold sRep
    have hk := h k (by simp)
    have h1 : Gk n (lfT 1) := Gk.leaf n 1 noF 0 0 [] (by omega)
    repeat' split
    all_goals first | exact h1 | exact hk | exact e8 [k]
  | a :: b :: r => exact e8 _
theorem flat_len (g : Tm → List Tm) : ∀ ks : List Tm, (∀ k ∈ ks, (g k).length ≤ szT k) → (ks.flatMap g).length ≤ szL ks
  | [], _ => Nat.le_refl _
  | k :: r, h => by
    rw [List.flatMap_cons, List.length_append, szL]
    have := flat_len g r fun x hx => h x (by simp [hx])
    have := h k (by simp)
    omega
/-- what the program makes of a term is no bigger than it -/
theorem gk_all (t : Tm) : Gk (szT t) (sPr t).s ∧ ((sPr t).g6.length ≤ szT t ∧ ∀ x ∈ (sPr t).g6, Gk (szT t) x) ∧ ((sPr t).g7.length ≤ szT t ∧ ∀ x ∈ (sPr t).g7, Gk (szT t) x) := by
  induction t using Tm.ind with
  | h op f lo hi ks ih =>
    have hz : szT (.mk op f lo hi ks) = 1 + szL ks := by rw [szT]
    rw [hz]
    have up : ∀ k ∈ ks, ∀ x, Gk (szT k) x → Gk (1 + szL ks) x := fun k hk x hx => hx.le x (by have := szL_mem ks k hk; omega)
    have l6 := flat_len (fun k => (sPr k).g6) ks fun k hk => (ih k hk).2.1.1
    have l7 := flat_len (fun k => (sPr k).g7) ks fun k hk => (ih k hk).2.2.1
    have m6 : ∀ x ∈ ks.flatMap (fun k => (sPr k).g6), Gk (1 + szL ks) x := fun x hx => by
      obtain ⟨k, hk, hx⟩ := List.mem_flatMap.1 hx
      exact up k hk x ((ih k hk).2.1.2 x hx)
    have m7 : ∀ x ∈ ks.flatMap (fun k => (sPr k).g7), Gk (1 + szL ks) x := fun x hx => by
      obtain ⟨k, hk, hx⟩ := List.mem_flatMap.1 hx
      exact up k hk x ((ih k hk).2.2.2 x hx)
    have hs : Gk (1 + szL ks) (sPr (.mk op f lo hi ks)).s := by
      by_cases e6 : op = 6
      · subst e6
        rw [s_row]
        exact gk_row _ (by simpa [gO] using Nat.le_trans l6 (by omega)) (by simpa [gO] using m6)
      · by_cases e7 : op = 7
        · subst e7
          rw [s_cho]
          exact gk_cho _ (by simpa [gO] using Nat.le_trans l7 (by omega)) (by simpa [gO] using m7)
        · rw [s_else op e6 e7]
          split
          · exact Gk.leaf _ 9 noF 0 0 [] (by omega)
          · split
            · exact gk_one8 f lo hi _ (fun x hx => by obtain ⟨k, hk, rfl⟩ := List.mem_map.1 hx; exact up k hk _ (ih k hk).1)
            · exact Gk.leaf _ op f lo hi _ (by omega)
    have hp : ∀ o, (sPr (.mk op f lo hi ks)).s = o → sPr (.mk op f lo hi ks) = ⟨o, if op = 6 then ks.flatMap (fun k => (sPr k).g6) else spl 6 o, if op = 7 then ks.flatMap (fun k => (sPr k).g7) else spl 7 o⟩ := by
      intro o ho
      subst ho
      rw [sPr, sPrL_map]
      simp only [proP, List.flatMap_map]
    rw [hp _ rfl]
    generalize (sPr (.mk op f lo hi ks)).s = s at hs
    have spl_ok : ∀ o, (o = 6 ∨ o = 7) → (spl o s).length ≤ 1 + szL ks ∧ ∀ x ∈ spl o s, Gk (1 + szL ks) x := by
      intro o ho
      unfold spl
      split
      · rename_i e
        have hx : opOf s = 6 ∨ opOf s = 7 := by rw [e]; exact ho
        exact ⟨(hs.two hx).2, hs.kids hx⟩
      · exact ⟨by simp, fun x hx => by rw [List.mem_singleton.1 hx]; exact hs⟩
    refine ⟨hs, ?_, ?_⟩
    · show (if op = 6 then _ else _ : List Tm).length ≤ _ ∧ ∀ x ∈ (if op = 6 then _ else _ : List Tm), _
      split
      · exact ⟨by omega, m6⟩
      · exact spl_ok 6 (.inl rfl)
    · show (if op = 7 then _ else _ : List Tm).length ≤ _ ∧ ∀ x ∈ (if op = 7 then _ else _ : List Tm), _
      split
      · exact ⟨by omega, m7⟩
      · exact spl_ok 7 (.inr rfl)
theorem len_sz : ∀ ks : List Tm, ks.length ≤ szL ks
  | [] => Nat.le_refl _
  | .mk op f lo hi l :: r => by
    have := len_sz r
    rw [szL, szT, List.length_cons]; omega
theorem fl_small (t : Tm) : szT t ≤ 500 → Fl 500000 t := by
  induction t using Tm.ind with
  | h op f lo hi ks ih =>
    intro hz
    have hz2 : 1 + szL ks ≤ 500 := by rw [szT] at hz; exact hz
    refine .mk op f lo hi ks (by have := len_sz ks; omega) ?_ ?_ (fun k hk o ho e => ?_) (fun k hk => ih k hk (by have := szL_mem ks k hk; omega))
    · have := flat_len (fun k => (sPr k).g6) ks fun k _ => (gk_all k).2.1.1
      have e : ks.flatMap (gO 6) = ks.flatMap fun k => (sPr k).g6 := rfl
      rw [e]; omega
    · have := flat_len (fun k => (sPr k).g7) ks fun k _ => (gk_all k).2.2.1
      have e : ks.flatMap (gO 7) = ks.flatMap fun k => (sPr k).g7 := rfl
      rw [e]; omega
    · exact ((gk_all k).1.two (by rw [e]; exact ho)).1
/-- Simple, of every small term -/
theorem simpleS_any (t : Tm) (d : TD) (w : World) (ht : TR w t d) (hz : szT t ≤ 500) : Calls Try.prog 21 #[d.val] w (Wv w (sPr t).s) :=
  simple_any 500000 (by omega) row_any (choice_any 500000 (by omega) fun n hn => sorts_any n hn) t d w ht (fl_small t hz)
end Go.Proofs.Ytkljagffccommaa
