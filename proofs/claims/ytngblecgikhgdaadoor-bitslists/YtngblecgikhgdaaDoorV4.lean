/- The document's answers for layer 1, walked: Up, List, Of; the law's spoil once more. -/
import Derived.Test.YtngblecgikhgdaaDoorV3
namespace Go.Proofs.YtngblecgikhgdaaDoor
open Go.RowKit

/-- the flags of Up behind k rounds -/
def upF (xs : List (BitVec 64)) (n N k : Nat) : List Bool := flagsL (fun j => decide (n ≤ j ∧ j - n < k) && bit xs (j - n)) N
theorem upF_step (xs : List (BitVec 64)) (n N k : Nat) : (upF xs n N k).set (k + n) (bit xs k) = upF xs n N (k + 1) := by
  unfold upF flagsL
  apply List.ext_getElem (by simp)
  intro j h1 h2
  simp only [List.getElem_set, List.getElem_map, List.getElem_range]
  by_cases e : k + n = j
  · subst e
    rw [if_pos rfl, decide_eq_true (by omega), show k + n - n = k by omega]; rfl
  · rw [if_neg e]
    congr 1
    rw [Bool.eq_iff_iff]; simp; omega
theorem fl_made (w : World) (n : Nat) (hn : n ≤ 9223372036854775807) : FL (w.alloc (.cells (madeCells #[.bool false] n) 4)) w.heap.size w.heap.size n (List.replicate n false) := by
  have h := World.ownsRow_lit (base := w.heap.size) (e := 4) (size := 1) w (madeCells #[.bool false] n) n (Nat.le_refl _) (by unfold maxLen; omega) (by rw [size_madeCells]; omega)
  unfold FL
  rw [List.length_replicate, show bvals (List.replicate n false) = (madeCells #[.bool false] n).toList by rw [toList_madeCells_one]; simp [bvals]]
  exact h
theorem upF_zero (xs : List (BitVec 64)) (n N : Nat) : upF xs n N 0 = List.replicate N false := by
  unfold upF flagsL
  apply List.ext_getElem (by simp)
  intro j h1 h2
  simp

set_option maxHeartbeats 400000 in
theorem rup_any (A : Option Addr) (c n : Nat) (xs : List (BitVec 64)) (w : World) (hx : U64s w A xs) (lx : xs.length ≤ 40) (hn : n ≤ 65536) :
    Calls Tryd.prog 32 #[.slice A xs.length c, .int .i64 n] w (GivesP w (Is fun j => decide (n ≤ j) && bit xs (j - n))) := by
  have hmk := run_make_row' (P := Tryd.prog) 48 4 (.bool false) 1 Tryd.underlying48 Tryd.info4 rfl .i64 .i64 (n + 64 * xs.length) (by omega) (by omega)
  rw [show ((n + 64 * xs.length : Nat) : Int) = (n : Int) + 64 * (xs.length : Int) by omega] at hmk
  have ha := Lib.hid (fl_made w (n + 64 * xs.length) (by omega))
  have hb := Lib.hid (below_alloc w (.cells (madeCells #[.bool false] (n + 64 * xs.length)) 4))
  have HX := Lib.hid hx; clear hx
  go_enter Tryd.func32, Tryd.ntmps32
  go_wp2_with fail
  clear hmk
  generalize w.alloc (.cells (madeCells #[.bool false] (n + 64 * xs.length)) 4) = w1 at ha hb ⊢
  go_loopw [6] (fun i wr => ∃ k : Nat, k ≤ 64 * xs.length ∧ i = .int .i64 k ∧ FL wr w.heap.size w.heap.size (n + 64 * xs.length) (upF xs n (n + 64 * xs.length) k) ∧ Below w.heap.size w wr) (fun i _ => 64 * xs.length - (intOf i).toNat)
  case atStart => exact ⟨0, Nat.zero_le _, rfl, by rw [upF_zero]; exact ha.out, hb.out⟩
  case round =>
    obtain ⟨k, hk, rfl, hfl, hbl⟩ := hrel
    have HF := Lib.hid hfl; have HB := Lib.hid hbl
    have hln : (upF xs n (n + 64 * xs.length) k).length = n + 64 * xs.length := len_flagsL _ _
    clear ha hb
    by_cases hlt : k < 64 * xs.length
    · have hce := hfl.cell (k + n) (by omega)
      have hfz := hfl.frozen (k + n)
      have H1 := Lib.hid (rget_any A c k xs wr (HX.out.below hbl) (by omega) (by omega))
      have HST := Lib.hid (upF_step xs n (n + 64 * xs.length) k)
      have HS := Lib.hid (hfl.set_ (k + n) (bit xs k))
      generalize bit xs k = b at H1 HST HS
      generalize bd (upF xs n (n + 64 * xs.length) k) (k + n) = old at hce
      have d0 : (k : Int) < 64 * (xs.length : Int) := by omega
      clear hfl hbl hln
      go_wp2_with fail
      refine H1.out.mono ?_
      rintro e w' ⟨rfl, rfl⟩
      go_wp2
      go_roundw
      case rel => exact ⟨k + 1, by omega, by go_num, by rw [← HST.out]; exact HS.out, HB.out.setCell (Nat.le_refl _) _⟩
      case measure => simp [intOf]; omega
    · obtain rfl : k = 64 * xs.length := by omega
      have H2 := from_fl (f := fun j => decide (n ≤ j) && bit xs (j - n)) hfl (by omega) fun j => by
        unfold upF; rw [bd_flagsL]
        by_cases h1 : n ≤ j
        · by_cases h2 : j - n < 64 * xs.length
          · rw [decide_eq_true (show j < n + 64 * xs.length by omega), decide_eq_true ⟨h1, h2⟩, decide_eq_true h1]; simp
          · rw [bit_big xs (j - n) (by omega)]; simp
        · simp [h1]
      rw [hln] at H2
      have H2 := Lib.hid H2
      clear hfl hbl hln
      have hge : ¬ ((64 * xs.length : Nat) : Int) < 64 * (xs.length : Int) := by omega
      go_wp2_with fail
      refine H2.out.mono ?_
      rintro e w2 hg
      have HG := Lib.hid (givesP_trans HB.out hg)
      obtain ⟨z, A2, c2, rfl, hrest⟩ := hg
      clear hrest H2 HB
      go_wp2
      go_ret
      exact HG.out

set_option maxHeartbeats 400000 in
theorem rlist_any (A : Option Addr) (c : Nat) (xs : List (BitVec 64)) (w : World) (hx : U64s w A xs) (lx : xs.length ≤ 40) :
    Calls Tryd.prog 36 #[.slice A xs.length c] w (GivesI w (ints (places xs (64 * xs.length)))) := by
  obtain ⟨i0, hi0, hz0, hz1, hz2⟩ := info_parts Tryd.info3
  have ho0 : Hid ((w.alloc (.cells #[] 3)).ownsRow w.heap.size 3 1 (.slice (some ⟨w.heap.size, 0, none⟩) 0 0) 0 []) :=
    World.ownsRow_made w #[] 0 (Nat.le_refl _) (by unfold maxLen; omega) rfl
  have hb0 : Hid (Below w.heap.size w (w.alloc (.cells #[] 3))) := below_alloc w _
  have HX := Lib.hid hx; clear hx
  go_enter Tryd.func36, Tryd.ntmps36
  go_wp2_with fail
  go_loopw [3, 4] (fun v i wr => ∃ (k g cap : Nat), k ≤ 64 * xs.length ∧ i = .int .i64 k ∧ v = .slice (some ⟨g, 0, none⟩) (places xs k).length cap ∧ wr.ownsRow w.heap.size 3 1 (.slice (some ⟨g, 0, none⟩) (places xs k).length cap) (places xs k).length (ivals (places xs k)) ∧ Below w.heap.size w wr) (fun _ i _ => 64 * xs.length - (intOf i).toNat)
  case atStart => exact ⟨0, w.heap.size, 0, Nat.zero_le _, rfl, rfl, ho0.out, hb0.out⟩
  case round =>
    obtain ⟨k, g, cap, hk, rfl, rfl, hown, hbl⟩ := hrel
    have HO := Lib.hid hown; have HB := Lib.hid hbl
    have hbs := hbl.size
    have hpl := places_le xs k
    clear ho0 hb0
    by_cases hlt : k < 64 * xs.length
    · have d0 : (k : Int) < 64 * (xs.length : Int) := by omega
      have H1 := Lib.hid (rget_any A c k xs wr (HX.out.below hbl) (by omega) (by omega))
      clear hown hbl
      cases hbk : bit xs k with
      | false =>
        rw [hbk] at H1
        have hp : Hid (places xs (k + 1) = places xs k) := places_none xs k 1 (fun i h1 h2 => by rw [show i = k by omega]; exact hbk)
        clear hbk
        go_wp2_with fail
        refine H1.out.mono ?_
        rintro e w' ⟨rfl, rfl⟩
        go_wp2
        go_roundw
        case rel => exact ⟨k + 1, g, cap, by omega, by go_num, by rw [hp.out], by rw [hp.out]; exact HO.out, HB.out⟩
        case measure => simp [intOf]; omega
      | true =>
        rw [hbk] at H1
        have hp : Hid (places xs (k + 1) = places xs k ++ [k]) := places_one xs k hbk
        clear hbk
        generalize places xs k = l at *
        go_wp2_with fail
        refine H1.out.mono ?_
        rintro e w' ⟨rfl, rfl⟩
        go_wp2_with (at_builtin; refine wpList_app1 rfl (.tmp 16) (.tmp 18) 35 rfl w.heap.size 3 i0 (.int .i64 0) 8 Tryd.underlying35 hi0 hz0 hz1 hz2 rfl _ _ _ rfl HO.out (.int .i64 (k : Int)) rfl rfl (by unfold maxLen; omega) (by omega) w HB.out (by omega) ?_)
        intro g3 cap3 w3 hown3 hb3
        have HO3 := Lib.hid hown3; have HB3 := Lib.hid hb3
        clear hown3 hb3 HO HB H1
        go_wp2
        go_roundw
        case rel =>
          refine ⟨k + 1, g3, cap3, by omega, by go_num, by rw [hp.out]; simp, ?_, HB3.out⟩
          have := HO3.out
          rw [ivals_snoc] at this
          rw [hp.out]
          simpa using this
        case measure => simp [intOf]; omega
    · obtain rfl : k = 64 * xs.length := by omega
      have hge : ¬ ((64 * xs.length : Nat) : Int) < 64 * (xs.length : Int) := by omega
      clear hown hbl
      go_wp2_with fail
      go_ret
      exact givesI_owns rfl HO.out HB.out

theorem is_len {f : Nat → Bool} {z : List (BitVec 64)} (h : Is f z) (m : Nat) (hf : ∀ i, 64 * m ≤ i → f i = false) : z.length ≤ m := by
  rcases Nat.lt_or_ge m z.length with hlt | hge
  · exfalso
    apply h.1 (by omega)
    apply BitVec.eq_of_getLsbD_eq
    intro l hl
    have h2 := h.2 (64 * (z.length - 1) + l)
    rw [hf _ (by omega), bit_at _ _ _ hl] at h2
    simpa [wd] using h2
  · exact hge

/-- the bits of the first k places -/
def ofB (zs : List Int) (k : Nat) (i : Nat) : Bool := decide (∃ j, j < k ∧ nz zs j = i)
theorem ofB_succ (zs : List Int) (k i : Nat) (h : 0 ≤ zd zs k) : (ofB zs k i || decide ((i : Int) = zd zs k)) = ofB zs (k + 1) i := by
  unfold ofB
  rw [Bool.eq_iff_iff]
  simp only [Bool.or_eq_true, decide_eq_true_eq]
  constructor
  · rintro (⟨j, hj, e⟩ | e)
    · exact ⟨j, by omega, e⟩
    · exact ⟨k, by omega, by unfold nz; omega⟩
  · rintro ⟨j, hj, e⟩
    by_cases h2 : j = k
    · subst h2; right; unfold nz at e; omega
    · exact Or.inl ⟨j, by omega, e⟩
theorem ofB_big (zs : List Int) (k : Nat) (h : ∀ j, j < k → Pl zs j) (i : Nat) (hi : 64 * 1024 ≤ i) : ofB zs k i = false := by
  unfold ofB
  apply decide_eq_false
  rintro ⟨j, hj, e⟩
  have := h j hj
  unfold Pl at this
  unfold nz at e
  omega

def GivesR (w : World) (P : List (BitVec 64) → Prop) (code : Int) (e : Ending) (w' : World) : Prop :=
  ∃ z A c, e = .returned (.tuple #[.slice A z.length c, .int .i64 code]) ∧ z.length ≤ 35184372088832 ∧ U64s w' A z ∧ Below w.heap.size w w' ∧ P z

set_option maxHeartbeats 400000 in
theorem rof_ok (A : Option Addr) (c : Nat) (zs : List Int) (w : World) (hx : I64s w A zs) (lx : zs.length ≤ 100) (hgood : ∀ j, j < zs.length → Pl zs j) :
    Calls Tryd.prog 38 #[.slice A zs.length c] w (GivesR w (Is (ofB zs zs.length)) 0) := by
  have HX := Lib.hid hx; have HG := Lib.hid hgood; clear hx hgood
  have hb0 : Hid (Below w.heap.size w (w.alloc (.cells #[] 45))) := below_alloc w _
  go_enter Tryd.func38, Tryd.ntmps38
  go_wp2_with fail
  go_loopw [4, 5] (fun v i wr => ∃ (k c2 : Nat) (A2 : Option Addr) (z : List (BitVec 64)), k ≤ zs.length ∧ i = .int .i64 k ∧ v = .slice A2 z.length c2 ∧ Is (ofB zs k) z ∧ U64s wr A2 z ∧ Below w.heap.size w wr) (fun _ i _ => zs.length - (intOf i).toNat)
  case atStart => exact ⟨0, 0, some ⟨w.heap.size, 0, none⟩, [], Nat.zero_le _, rfl, rfl, ⟨can_nil, fun i => by simp [bit, ofB]⟩, fun h => by simp at h, hb0.out⟩
  case round =>
    obtain ⟨k, c2, A2, z, hk, rfl, rfl, his, hz, hbl⟩ := hrel
    have HI := Lib.hid his; have HZ := Lib.hid hz; have HB := Lib.hid hbl
    clear hb0
    by_cases hlt : k < zs.length
    · obtain ⟨b, off, rfl, hbb, hcell⟩ := (HX.out.below hbl) (by omega)
      have hc1 := hcell k hlt
      have hp := HG.out k hlt
      unfold Pl at hp
      obtain ⟨p0, p1⟩ := hp
      have hzl := is_len his 1024 (ofB_big zs k fun j hj => HG.out j (by omega))
      have H1 := Lib.hid (rset_any A2 c2 (zd zs k) z wr hz hzl p0 p1)
      have hsucc : Hid (∀ i, (bit z i || decide ((i : Int) = zd zs k)) = ofB zs (k + 1) i) := fun i => by rw [his.2, ofB_succ zs k i p0]
      generalize zd zs k = q at hc1 p0 p1 H1 hsucc
      have d0 : decide (q < 0) = false := by simp; omega
      have d1 : decide (65535 < q) = false := by simp; omega
      clear hcell his hz hbl
      go_wp2_with fail
      refine H1.out.mono ?_
      rintro e w2 ⟨z2, A3, c3, rfl, _, _, hx3, _, hb3, hi3⟩
      have HX3 := Lib.hid hx3; have HB3 := Lib.hid (HB.out.trans (hb3.mono HB.out.size)); have HI3 := Lib.hid (hi3.congr hsucc.out)
      clear hx3 hb3 hi3 H1 HB HI HZ hsucc
      go_wp2
      go_roundw
      case rel => exact ⟨k + 1, c3, A3, z2, by omega, by go_num, rfl, HI3.out, HX3.out, HB3.out⟩
      case measure => simp [intOf]; omega
    · obtain rfl : k = zs.length := by omega
      have hzl := is_len his 1024 (ofB_big zs zs.length fun j hj => HG.out j (by omega))
      clear his hz hbl
      go_wp2_with fail
      go_ret2
      exact ⟨z, A2, c2, rfl, by omega, HZ.out, HB.out, HI.out⟩

set_option maxHeartbeats 400000 in
theorem rof_bad (A : Option Addr) (c m : Nat) (zs : List Int) (w : World) (hx : I64s w A zs) (lx : zs.length ≤ 100) (hm : m < zs.length) (hbad : ¬ Pl zs m) (hgood : ∀ j, j < m → Pl zs j) :
    Calls Tryd.prog 38 #[.slice A zs.length c] w (GivesR w (fun z => z = []) 2) := by
  have HX := Lib.hid hx; have HG := Lib.hid hgood; have HBad := Lib.hid hbad; clear hx hgood hbad
  have hb0 : Hid (Below w.heap.size w (w.alloc (.cells #[] 45))) := below_alloc w _
  go_enter Tryd.func38, Tryd.ntmps38
  go_wp2_with fail
  go_loopw [4, 5] (fun v i wr => ∃ (k c2 : Nat) (A2 : Option Addr) (z : List (BitVec 64)), k ≤ m ∧ i = .int .i64 k ∧ v = .slice A2 z.length c2 ∧ Is (ofB zs k) z ∧ U64s wr A2 z ∧ Below w.heap.size w wr) (fun _ i _ => zs.length - (intOf i).toNat)
  case atStart => exact ⟨0, 0, some ⟨w.heap.size, 0, none⟩, [], Nat.zero_le _, rfl, rfl, ⟨can_nil, fun i => by simp [bit, ofB]⟩, fun h => by simp at h, hb0.out⟩
  case round =>
    obtain ⟨k, c2, A2, z, hk, rfl, rfl, his, hz, hbl⟩ := hrel
    have HI := Lib.hid his; have HZ := Lib.hid hz; have HB := Lib.hid hbl
    clear hb0
    obtain ⟨b, off, rfl, hbb, hcell⟩ := (HX.out.below hbl) (by omega)
    have hlt : k < zs.length := by omega
    have hc1 := hcell k hlt
    by_cases hkm : k = m
    · have hb2 : zd zs k < 0 ∨ 65536 ≤ zd zs k := by
        have := HBad.out
        rw [← hkm] at this
        unfold Pl at this
        omega
      generalize zd zs k = q at hc1 hb2
      have hsz := hbl.size
      clear hcell his hz hbl hkm
      rcases hb2 with hb2 | hb2
      · have d0 : decide (q < 0) = true := by simp; omega
        go_wp2
        go_ret2
        exact ⟨[], _, _, rfl, by simp, fun h => by simp at h, HB.out.alloc hsz _, rfl⟩
      · have d0 : decide (q < 0) = false := by simp; omega
        have d1 : decide (65535 < q) = true := by simp; omega
        go_wp2
        go_ret2
        exact ⟨[], _, _, rfl, by simp, fun h => by simp at h, HB.out.alloc hsz _, rfl⟩
    · have hp := HG.out k (by omega)
      unfold Pl at hp
      obtain ⟨p0, p1⟩ := hp
      have hzl := is_len his 1024 (ofB_big zs k fun j hj => HG.out j (by omega))
      have H1 := Lib.hid (rset_any A2 c2 (zd zs k) z wr hz hzl p0 p1)
      have hsucc : Hid (∀ i, (bit z i || decide ((i : Int) = zd zs k)) = ofB zs (k + 1) i) := fun i => by rw [his.2, ofB_succ zs k i p0]
      generalize zd zs k = q at hc1 p0 p1 H1 hsucc
      have d0 : decide (q < 0) = false := by simp; omega
      have d1 : decide (65535 < q) = false := by simp; omega
      clear hcell his hz hbl
      go_wp2_with fail
      refine H1.out.mono ?_
      rintro e w2 ⟨z2, A3, c3, rfl, _, _, hx3, _, hb3, hi3⟩
      have HX3 := Lib.hid hx3; have HB3 := Lib.hid (HB.out.trans (hb3.mono HB.out.size)); have HI3 := Lib.hid (hi3.congr hsucc.out)
      clear hx3 hb3 hi3 H1 HB HI HZ hsucc
      go_wp2
      go_roundw
      case rel => exact ⟨k + 1, c3, A3, z2, by omega, by go_num, rfl, HI3.out, HX3.out, HB3.out⟩
      case measure => simp [intOf]; omega

/-! ### spoil -/
/-- the slice's cells are there, may be written, and lie at block lo or above -/
def Spo (w : World) (lo : Nat) (A : Option Addr) (n : Nat) : Prop :=
  0 < n → ∃ b off, A = some ⟨b, off, none⟩ ∧ lo ≤ b ∧ b < w.heap.size ∧ ∀ j, j < n → w.frozen? ⟨b, off + j, none⟩ = false ∧ ∃ v, w.cell? ⟨b, off + j, none⟩ = some v
/-- what cells are there stay, and may be written as before -/
def Kp (w w' : World) : Prop := w.heap.size ≤ w'.heap.size ∧ ∀ p : Addr, w'.frozen? p = w.frozen? p ∧ ∀ v, w.cell? p = some v → ∃ v', w'.cell? p = some v'
theorem Spo.below {w w' : World} {lo : Nat} {A : Option Addr} {n : Nat} (h : Spo w lo A n) (hb : Below w.heap.size w w') : Spo w' lo A n := fun h0 => by
  obtain ⟨b, off, e, h1, h2, h3⟩ := h h0
  refine ⟨b, off, e, h1, Nat.lt_of_lt_of_le h2 hb.size, fun j hj => ?_⟩
  obtain ⟨h4, v, h5⟩ := h3 j hj
  exact ⟨(hb.frozen (p := ⟨b, off + j, none⟩) h2).trans h4, v, (hb.cell (p := ⟨b, off + j, none⟩) h2).trans h5⟩
theorem Spo.kp {w w' : World} {lo : Nat} {A : Option Addr} {n : Nat} (h : Spo w lo A n) (hk : Kp w w') : Spo w' lo A n := fun h0 => by
  obtain ⟨b, off, e, h1, h2, h3⟩ := h h0
  refine ⟨b, off, e, h1, Nat.lt_of_lt_of_le h2 hk.1, fun j hj => ?_⟩
  obtain ⟨h4, v, h5⟩ := h3 j hj
  exact ⟨((hk.2 _).1).trans h4, (hk.2 _).2 v h5⟩
theorem spo_of {w : World} {lo lo' : Nat} {A : Option Addr} {z : List (BitVec 64)} (hx : U64s w A z) (hf : Fre w lo A z.length) (hlo : lo' ≤ lo) : Spo w lo' A z.length := fun h0 => by
  obtain ⟨b, off, e, h1, h2⟩ := hf h0
  obtain ⟨b2, off2, e2, h3, h4⟩ := hx h0
  rw [e] at e2; injection e2 with e2; injection e2 with e3 e4; subst e3; subst e4
  exact ⟨b, off, e, by omega, h3, fun j hj => ⟨h2 j hj, _, h4 j hj⟩⟩
theorem kp_set (w : World) (p : Addr) (u : Value) : Kp w (w.setCell p u) := by
  refine ⟨by simp, fun q => ⟨by simp, fun v hv => ?_⟩⟩
  exact cell?_setCell_some hv

set_option maxHeartbeats 400000 in
theorem spoil_k (A : Option Addr) (c n lo : Nat) (w : World) (hs : Spo w lo A n) (lx : n ≤ 35184372088832) :
    Calls Tryd.prog 20 #[.slice A n c] w fun e w' => e = .returned (.tuple #[]) ∧ Below lo w w' ∧ Kp w w' := by
  have HS := Lib.hid hs; clear hs
  go_enter Tryd.func20, Tryd.ntmps20
  go_wp2
  go_loopw [5] (fun i wr => ∃ k : Nat, k ≤ n ∧ i = .int .i64 k ∧ Below lo w wr ∧ Kp w wr) (fun i _ => n - (intOf i).toNat)
  case atStart => exact ⟨0, Nat.zero_le _, rfl, Below.refl _ _, Nat.le_refl _, fun p => ⟨rfl, fun v hv => ⟨v, hv⟩⟩⟩
  case round =>
    obtain ⟨k, hk, rfl, hb, hkp⟩ := hrel
    have HB := Lib.hid hb; have HK := Lib.hid hkp
    clear hb
    by_cases hlt : k < n
    · obtain ⟨b, off, rfl, hlo, hbb, hall⟩ := (HS.out.kp hkp) (by omega)
      obtain ⟨hfz, v, hce⟩ := hall k hlt
      clear hall hkp
      go_wp2
      go_roundw
      case rel =>
        refine ⟨k + 1, by omega, by go_num, HB.out.setCell hlo _, ?_⟩
        have h2 := kp_set wr ⟨b, off + k, none⟩ (.int .u64 238)
        refine ⟨Nat.le_trans HK.out.1 h2.1, fun p => ⟨(h2.2 p).1.trans (HK.out.2 p).1, fun v hv => ?_⟩⟩
        obtain ⟨v1, hv1⟩ := (HK.out.2 p).2 v hv
        exact (h2.2 p).2 v1 hv1
      case measure => simp [intOf]; omega
    · clear hkp
      go_wp2
      go_end0
      exact ⟨rfl, HB.out, HK.out⟩

theorem copy_p (A : Option Addr) (c : Nat) (xs : List (BitVec 64)) (w : World) (hx : U64s w A xs) (hA : A = none → c = 0 ∧ xs.length = 0) (lx : xs.length ≤ 40) :
    Calls Tryd.prog 14 #[.slice A xs.length c] w (GivesP w fun z => z = xs) :=
  (copy_any A c xs w hx hA lx).mono (gives_p (by omega) rfl)
end Go.Proofs.YtngblecgikhgdaaDoor
