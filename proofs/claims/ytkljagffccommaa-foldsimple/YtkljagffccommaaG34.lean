/- The document's Runs of a class. The document's Bytes of a class. -/
import Derived.Test.YtkljagffccommaaG31
import Derived.Test.YtkljagffccommaaG30
import Derived.Laws.OwnMore
namespace Go.Proofs.Ytkljagffccommaa
open Go.RowKit
theorem owns_below2 {w w' : World} {base n : Nat} {e : TypeId} {v : Value} {xs : List Value} (h : w.ownsRow base e 2 v n xs) (hb : Below w.heap.size w w') : w'.ownsRow base e 2 v n xs :=
  h.kept (row := none) ⟨hb.os, hb.tape, hb.output, hb.size, fun j hj _ => hb.block j hj⟩ (by
    cases hv : v.ownBlock
    · exact Or.inl rfl
    · exact Or.inr (by simp))
def Mid (q : Nat → BitVec 64) (k m : Nat) : Prop :=
  k ≤ m ∧ m ≤ 256 ∧ (∀ j, k ≤ j → j < m → kb q j = true) ∧ (k < m → 0 < k ∧ kb q (k - 1) = true) ∧ (0 < k → kb q (k - 1) = true → m = 256 ∨ kb q m = false)
theorem Rn_len (q : Nat → BitVec 64) (m : Nat) (h : m ≤ 256) : (Rn q m).length ≤ 256 := by
  have h1 := len_runsK (byl q m) (byl q m).length
  have h2 := byl_le q m
  unfold Rn; omega
theorem mid_skip (q : Nat → BitVec 64) (k m : Nat) (h : Mid q k m) (hk : k < 256) (hf : kb q k = false) : m = k ∧ Mid q (k + 1) (k + 1) := by
  obtain ⟨h1, h2, h3, h4, h5⟩ := h
  have e : m = k := by
    rcases Nat.lt_or_ge k m with hh | hh
    · have := h3 k (Nat.le_refl _) hh; rw [hf] at this; cases this
    · omega
  exact ⟨e, Nat.le_refl _, by omega, fun j a b => by omega, fun h => by omega, fun _ h => by rw [Nat.add_sub_cancel, hf] at h; cases h⟩
theorem mid_go (q : Nat → BitVec 64) (k m : Nat) (h : Mid q k m) (hk : k < 256) (h0 : 0 < k) (hf : kb q k = true) (hp : kb q (k - 1) = true) : Mid q (k + 1) m := by
  obtain ⟨h1, h2, h3, h4, h5⟩ := h
  have hlt : k < m := by
    rcases Nat.lt_or_ge k m with hh | hh
    · exact hh
    · rcases h5 h0 hp with e | e
      · omega
      · rw [show m = k by omega, hf] at e; cases e
  exact ⟨hlt, h2, fun j a b => h3 j (by omega) b, fun _ => ⟨by omega, by rw [Nat.add_sub_cancel]; exact hf⟩, fun _ _ => h5 h0 hp⟩
theorem mid_start (q : Nat → BitVec 64) (k m : Nat) (h : Mid q k m) (hp : k = 0 ∨ kb q (k - 1) = false) : m = k := by
  obtain ⟨h1, h2, h3, h4, h5⟩ := h
  rcases Nat.lt_or_ge k m with hh | hh
  · obtain ⟨a, b⟩ := h4 hh
    rcases hp with rfl | hp
    · omega
    · rw [hp] at b; cases b
  · omega
theorem mid_end (q : Nat → BitVec 64) (k d : Nat) (hd : k + d < 256) (ha : ∀ j, k ≤ j → j ≤ k + d → kb q j = true) (he : k + d = 255 ∨ kb q (k + d + 1) = false) : Mid q (k + 1) (k + d + 1) :=
  ⟨by omega, by omega, fun j a b => ha j (by omega) (by omega), fun _ => ⟨by omega, by rw [Nat.add_sub_cancel]; exact ha k (Nat.le_refl _) (by omega)⟩, fun _ _ => by
    rcases he with e | e
    · exact Or.inl (by omega)
    · exact Or.inr e⟩

set_option maxRecDepth 100000 in
set_option maxHeartbeats 4000000 in
theorem runs2_any (q : Nat → BitVec 64) (w : World) : Calls Try.prog 102 #[.agg (cw q)] w (GivesR w (rq q)) := by
  obtain ⟨i0, hi0, hz0, hz1, hz2⟩ := info_parts Try.info117
  have h1 := CB.new w q
  have hbl : Below w.heap.size w (w.alloc (.cells (cw q) 26)) := (Below.refl _ _).alloc (Nat.le_refl _) _
  have hsz : (w.alloc (.cells (cw q) 26)).heap.size = w.heap.size + 1 := by simp
  have HC := Lib.hid h1; have HB := Lib.hid hbl; have HZ := Lib.hid hsz
  clear h1 hbl hsz
  have DH : Hid (∀ k, k < 256 → ∀ W, Calls Try.prog 85 #[.agg (cw q), .int .i64 (k : Nat)] W fun e w' => e = .returned (.bool (kb q k)) ∧ Below W.heap.size W w') := fun k hk W => has2_any q k W hk
  unfold cw at HC HB HZ DH ⊢
  go_enter Try.func102, Try.ntmps102
  go_wp2_with fail
  generalize w.alloc (.cells #[.int .u64 (uv (q 0)), .int .u64 (uv (q 1)), .int .u64 (uv (q 2)), .int .u64 (uv (q 3))] 26) = wA at HC HB HZ ⊢
  go_loopw [3, 4] (fun v i wr => ∃ (k m cap : Nat) (A : Option Addr), k ≤ 256 ∧ Mid q k m ∧ i = .int .i64 k ∧ v = .slice A (Rn q m).length cap ∧ wr.ownsRow (w.heap.size + 1) 117 2 (.slice A (Rn q m).length cap) (Rn q m).length (pcells (Rn q m)) ∧ Below (w.heap.size + 1) wA wr) (fun _ i _ => 256 - (intOf i).toNat)
  case atStart =>
    have hl := World.ownsRow_lit (base := w.heap.size + 1) (e := 117) (size := 2) wA #[] 0 (by rw [HZ.out]; exact Nat.le_refl _) (Nat.zero_le _) (by simp)
    rw [HZ.out] at hl
    exact ⟨0, 0, 0, some ⟨w.heap.size + 1, 0, none⟩, by omega, ⟨Nat.le_refl _, by omega, fun j a b => by omega, fun h => by omega, fun h => by omega⟩, rfl, rfl, hl, (Below.refl _ _).alloc (by rw [HZ.out]; exact Nat.le_refl _) _⟩
  case round =>
    obtain ⟨k, m, cap, A, hk, hmid, rfl, rfl, hown, hA⟩ := hrel
    have HO := Lib.hid hown; have HA := Lib.hid hA; have HM := Lib.hid hmid
    have hbs : w.heap.size + 1 ≤ wr.heap.size := by have := hA.size; rw [HZ.out] at this; exact this
    by_cases hlt : k < 256
    · have hc : CB wr w.heap.size q := HC.out.below hA (by omega)
      have a0 := hc.cell 0 (by omega); have a1 := hc.cell 1 (by omega); have a2 := hc.cell 2 (by omega); have a3 := hc.cell 3 (by omega)
      have HH := Lib.hid (DH.out k hlt wr)
      clear hown hA hmid hc
      cases hbk : kb q k with
      | false =>
        have HK := Lib.hid (mid_skip q k m HM.out hlt hbk)
        have HP := Lib.hid (Rn_skip q k hbk)
        rw [hbk] at HH
        obtain rfl := HK.out.1
        clear hbk
        go_wp2_with fail
        refine HH.out.mono ?_
        rintro e w3 ⟨rfl, hb3⟩
        have HA3 := Lib.hid (HA.out.trans (hb3.mono hbs))
        have HO3 := Lib.hid (owns_below2 HO.out hb3)
        clear hb3 HH HO HA
        go_wp2
        go_roundw
        case rel => exact ⟨m + 1, m + 1, cap, A, by omega, HK.out.2, by go_num, by rw [HP.out], by rw [HP.out]; exact HO3.out, HA3.out⟩
        case measure => simp [intOf]; omega
      | true =>
        by_cases hst : 0 < k ∧ kb q (k - 1) = true
        · have HK := Lib.hid (mid_go q k m HM.out hlt hst.1 hbk hst.2)
          have HH2 : Hid (∀ W, Calls Try.prog 85 #[.agg #[.int .u64 (uv (q 0)), .int .u64 (uv (q 1)), .int .u64 (uv (q 2)), .int .u64 (uv (q 3))], .int .i64 ((k : Int) - 1)] W fun e w' => e = .returned (.bool true) ∧ Below W.heap.size W w') := fun W => by
            have := DH.out (k - 1) (by omega) W
            rw [hst.2, show ((k - 1 : Nat) : Int) = (k : Int) - 1 by omega] at this; exact this
          rw [hbk] at HH
          have hk0 := hst.1
          clear hbk hst
          go_wp2_with fail
          refine HH.out.mono ?_
          rintro e w3 ⟨rfl, hb3⟩
          have HA3 := Lib.hid (HA.out.trans (hb3.mono hbs))
          have HO3 := Lib.hid (owns_below2 HO.out hb3)
          have hbs3 : w.heap.size + 1 ≤ w3.heap.size := Nat.le_trans hbs hb3.size
          clear hb3 HO HA hbs a0 a1 a2 a3
          have HA := HA3; have HO := HO3; have hbs := hbs3
          clear HA3 HO3 hbs3
          have hc : CB w3 w.heap.size q := HC.out.below HA.out (by omega)
          have a0 := hc.cell 0 (by omega); have a1 := hc.cell 1 (by omega); have a2 := hc.cell 2 (by omega); have a3 := hc.cell 3 (by omega)
          clear hc
          go_wp2_with fail
          refine (HH2.out _).mono ?_
          rintro e w4 ⟨rfl, hb3⟩
          have HA3 := Lib.hid (HA.out.trans (hb3.mono hbs))
          have HO3 := Lib.hid (owns_below2 HO.out hb3)
          have hbs3 : w.heap.size + 1 ≤ w4.heap.size := Nat.le_trans hbs hb3.size
          clear hb3 HO HA hbs a0 a1 a2 a3
          have HA := HA3; have HO := HO3; have hbs := hbs3
          clear HA3 HO3 hbs3
          go_wp2
          go_roundw
          case rel => exact ⟨k + 1, m, cap, A, by omega, HK.out, by go_num, rfl, HO.out, HA.out⟩
          case measure => simp [intOf]; omega
        · have hp : k = 0 ∨ kb q (k - 1) = false := by
            rcases Nat.eq_zero_or_pos k with h0 | h0
            · exact Or.inl h0
            · right
              cases hv : kb q (k - 1) with
              | false => rfl
              | true => exact absurd ⟨h0, hv⟩ hst
          obtain rfl := mid_start q k m HM.out hp
          have HST := Lib.hid hp
          have HBK := Lib.hid hbk
          have hrl := Rn_len q m (by omega)
          rw [hbk] at HH
          have hkw : IntKind.u8.wrap (m : Int) = (m : Int) := by rw [IntKind.wrap_u8']; omega
          clear hbk hst hp
          by_cases hk0 : 0 < m
          · have HH2 : Hid (∀ W, Calls Try.prog 85 #[.agg #[.int .u64 (uv (q 0)), .int .u64 (uv (q 1)), .int .u64 (uv (q 2)), .int .u64 (uv (q 3))], .int .i64 ((m : Int) - 1)] W fun e w' => e = .returned (.bool false) ∧ Below W.heap.size W w') := fun W => by
              have := DH.out (m - 1) (by omega) W
              rw [HST.out.resolve_left (by omega), show ((m - 1 : Nat) : Int) = (m : Int) - 1 by omega] at this; exact this
            go_wp2_with fail
            refine HH.out.mono ?_
            rintro e w3 ⟨rfl, hb3⟩
            have HA3 := Lib.hid (HA.out.trans (hb3.mono hbs))
            have HO3 := Lib.hid (owns_below2 HO.out hb3)
            have hbs3 : w.heap.size + 1 ≤ w3.heap.size := Nat.le_trans hbs hb3.size
            clear hb3 HO HA hbs a0 a1 a2 a3
            have HA := HA3; have HO := HO3; have hbs := hbs3
            clear HA3 HO3 hbs3
            have hc : CB w3 w.heap.size q := HC.out.below HA.out (by omega)
            have a0 := hc.cell 0 (by omega); have a1 := hc.cell 1 (by omega); have a2 := hc.cell 2 (by omega); have a3 := hc.cell 3 (by omega)
            clear hc
            go_wp2_with fail
            refine (HH2.out _).mono ?_
            rintro e w4 ⟨rfl, hb3⟩
            have HA3 := Lib.hid (HA.out.trans (hb3.mono hbs))
            have HO3 := Lib.hid (owns_below2 HO.out hb3)
            have hbs3 : w.heap.size + 1 ≤ w4.heap.size := Nat.le_trans hbs hb3.size
            clear hb3 HO HA hbs a0 a1 a2 a3
            have HA := HA3; have HO := HO3; have hbs := hbs3
            clear HA3 HO3 hbs3
            go_wp2_with fail
            go_loopw [5] (fun i wr2 => ∃ d : Nat, m + d < 256 ∧ i = .int .i64 ((m + d : Nat) : Int) ∧ (∀ j, m ≤ j → j ≤ m + d → kb q j = true) ∧ wr2.ownsRow (w.heap.size + 1) 117 2 (.slice A (Rn q m).length cap) (Rn q m).length (pcells (Rn q m)) ∧ Below (w.heap.size + 1) wA wr2) (fun i _ => 255 - (intOf i).toNat)
            case atStart => exact ⟨0, by omega, rfl, fun j a b => by rw [show j = m by omega]; exact HBK.out, HO.out, HA.out⟩
            case round =>
              obtain ⟨d, hd, rfl, hall, hown2, hA2⟩ := hrel
              clear HO HA hbs
              have HO := Lib.hid hown2; have HA := Lib.hid hA2; have HAL := Lib.hid hall
              have hbs : w.heap.size + 1 ≤ wr.heap.size := by have := hA2.size; rw [HZ.out] at this; exact this
              have HBL := Lib.hid (Rn_block q m HST.out d hd hall)
              have HME := Lib.hid (mid_end q m d hd hall)
              obtain ⟨x, hx⟩ : ∃ x : Nat, x = m + d := ⟨_, rfl⟩
              rw [← hx] at HBL HME HAL hd ⊢
              have HX := Lib.hid hx
              clear hown2 hA2 hall
              have hxw : IntKind.u8.wrap (x : Int) = (x : Int) := by rw [IntKind.wrap_u8']; omega
              have hxk : m ≤ x := by omega
              clear hx
              by_cases hx5 : x < 255
              · have HH3 : Hid (∀ W, Calls Try.prog 85 #[.agg #[.int .u64 (uv (q 0)), .int .u64 (uv (q 1)), .int .u64 (uv (q 2)), .int .u64 (uv (q 3))], .int .i64 ((x : Int) + 1)] W fun e w' => e = .returned (.bool (kb q (x + 1))) ∧ Below W.heap.size W w') := fun W => by
                  have := DH.out (x + 1) (by omega) W
                  rw [show ((x + 1 : Nat) : Int) = (x : Int) + 1 by omega] at this; exact this
                have hc : CB wr w.heap.size q := HC.out.below HA.out (by omega)
                have a0 := hc.cell 0 (by omega); have a1 := hc.cell 1 (by omega); have a2 := hc.cell 2 (by omega); have a3 := hc.cell 3 (by omega)
                clear hc
                cases hb1 : kb q (x + 1) with
                | true =>
                  rw [hb1] at HH3
                  go_wp2_with fail
                  refine (HH3.out _).mono ?_
                  rintro e w5 ⟨rfl, hb3⟩
                  have HA3 := Lib.hid (HA.out.trans (hb3.mono hbs))
                  have HO3 := Lib.hid (owns_below2 HO.out hb3)
                  have hbs3 : w.heap.size + 1 ≤ w5.heap.size := Nat.le_trans hbs hb3.size
                  clear hb3 HO HA hbs a0 a1 a2 a3
                  have HA := HA3; have HO := HO3; have hbs := hbs3
                  clear HA3 HO3 hbs3
                  go_wp2
                  go_roundw
                  case rel => exact ⟨d + 1, by have := HX.out; omega, by rw [HX.out]; go_num, fun j a b => by
                      have e := HX.out
                      by_cases hj : j ≤ x
                      · exact HAL.out j a hj
                      · rw [show j = x + 1 by omega]; exact hb1, HO.out, HA.out⟩
                  case measure => simp [intOf]; omega
                | false =>
                  rw [hb1] at HH3
                  have HE : Hid (Mid q (m + 1) (x + 1) ∧ Rn q (x + 1) = Rn q m ++ [(m, x)]) := ⟨HME.out (Or.inr hb1), HBL.out⟩
                  clear hb1
                  go_wp2_with fail
                  refine (HH3.out _).mono ?_
                  rintro e w5 ⟨rfl, hb3⟩
                  have HA3 := Lib.hid (HA.out.trans (hb3.mono hbs))
                  have HO3 := Lib.hid (owns_below2 HO.out hb3)
                  have hbs3 : w.heap.size + 1 ≤ w5.heap.size := Nat.le_trans hbs hb3.size
                  clear hb3 HO HA hbs a0 a1 a2 a3
                  have HA := HA3; have HO := HO3; have hbs := hbs3
                  clear HA3 HO3 hbs3
                  go_wp2_with (at_builtin; refine wpList_app2 rfl (.tmp 36) (.tmp 42) 115 rfl (w.heap.size + 1) 117 i0 (.agg #[.int .u8 0, .int .u8 0]) 2 Try.underlying115 hi0 hz0 hz1 hz2 rfl _ _ _ rfl HO.out (.int .u8 (m : Int)) (.int .u8 (x : Int)) rfl rfl rfl (by unfold maxLen; omega) (by omega) wA HA.out hbs ?_)
                  intro g4 cap4 w4 hown4 hb4
                  have HO4 := Lib.hid hown4; have HA4 := Lib.hid hb4
                  clear hown4 hb4 HO HA
                  go_wp2
                  go_roundw
                  case rel =>
                    refine ⟨m + 1, x + 1, cap4, some ⟨g4, 0, none⟩, by omega, HE.out.1, by go_num, by rw [HE.out.2]; simp, ?_, HA4.out⟩
                    have := HO4.out
                    rw [HE.out.2, ← pcells_snoc]
                    simpa using this
                  case measure => simp [intOf]; omega
              · obtain rfl : x = 255 := by omega
                have HE : Hid (Mid q (m + 1) (255 + 1) ∧ Rn q (255 + 1) = Rn q m ++ [(m, 255)]) := ⟨HME.out (Or.inl rfl), HBL.out⟩
                go_wp2_with (at_builtin; refine wpList_app2 rfl (.tmp 36) (.tmp 42) 115 rfl (w.heap.size + 1) 117 i0 (.agg #[.int .u8 0, .int .u8 0]) 2 Try.underlying115 hi0 hz0 hz1 hz2 rfl _ _ _ rfl HO.out (.int .u8 (m : Int)) (.int .u8 255) rfl rfl rfl (by unfold maxLen; omega) (by omega) wA HA.out hbs ?_)
                intro g4 cap4 w4 hown4 hb4
                have HO4 := Lib.hid hown4; have HA4 := Lib.hid hb4
                clear hown4 hb4 HO HA
                go_wp2
                go_roundw
                case rel =>
                  refine ⟨m + 1, 255 + 1, cap4, some ⟨g4, 0, none⟩, by omega, HE.out.1, by go_num, by rw [HE.out.2]; simp, ?_, HA4.out⟩
                  have := HO4.out
                  rw [HE.out.2, ← pcells_snoc]
                  simpa using this
                case measure => simp [intOf]; omega
          · obtain rfl : m = 0 := by omega
            go_wp2_with fail
            refine HH.out.mono ?_
            rintro e w3 ⟨rfl, hb3⟩
            have HA3 := Lib.hid (HA.out.trans (hb3.mono hbs))
            have HO3 := Lib.hid (owns_below2 HO.out hb3)
            have hbs3 : w.heap.size + 1 ≤ w3.heap.size := Nat.le_trans hbs hb3.size
            clear hb3 HO HA hbs a0 a1 a2 a3
            have HA := HA3; have HO := HO3; have hbs := hbs3
            clear HA3 HO3 hbs3
            go_wp2_with fail
            go_loopw [5] (fun i wr2 => ∃ d : Nat, 0 + d < 256 ∧ i = .int .i64 ((0 + d : Nat) : Int) ∧ (∀ j, 0 ≤ j → j ≤ 0 + d → kb q j = true) ∧ wr2.ownsRow (w.heap.size + 1) 117 2 (.slice A (Rn q 0).length cap) (Rn q 0).length (pcells (Rn q 0)) ∧ Below (w.heap.size + 1) wA wr2) (fun i _ => 255 - (intOf i).toNat)
            case atStart => exact ⟨0, by omega, rfl, fun j a b => by rw [show j = 0 by omega]; exact HBK.out, HO.out, HA.out⟩
            case round =>
              obtain ⟨d, hd, rfl, hall, hown2, hA2⟩ := hrel
              clear HO HA hbs
              have HO := Lib.hid hown2; have HA := Lib.hid hA2; have HAL := Lib.hid hall
              have hbs : w.heap.size + 1 ≤ wr.heap.size := by have := hA2.size; rw [HZ.out] at this; exact this
              have HBL := Lib.hid (Rn_block q 0 (Or.inl rfl) d hd hall)
              have HME := Lib.hid (mid_end q 0 d hd hall)
              obtain ⟨x, hx⟩ : ∃ x : Nat, x = 0 + d := ⟨_, rfl⟩
              rw [← hx] at HBL HME HAL hd ⊢
              have HX := Lib.hid hx
              clear hown2 hA2 hall
              have hxw : IntKind.u8.wrap (x : Int) = (x : Int) := by rw [IntKind.wrap_u8']; omega
              have hxk : 0 ≤ x := by omega
              clear hx
              by_cases hx5 : x < 255
              · have HH3 : Hid (∀ W, Calls Try.prog 85 #[.agg #[.int .u64 (uv (q 0)), .int .u64 (uv (q 1)), .int .u64 (uv (q 2)), .int .u64 (uv (q 3))], .int .i64 ((x : Int) + 1)] W fun e w' => e = .returned (.bool (kb q (x + 1))) ∧ Below W.heap.size W w') := fun W => by
                  have := DH.out (x + 1) (by omega) W
                  rw [show ((x + 1 : Nat) : Int) = (x : Int) + 1 by omega] at this; exact this
                have hc : CB wr w.heap.size q := HC.out.below HA.out (by omega)
                have a0 := hc.cell 0 (by omega); have a1 := hc.cell 1 (by omega); have a2 := hc.cell 2 (by omega); have a3 := hc.cell 3 (by omega)
                clear hc
                cases hb1 : kb q (x + 1) with
                | true =>
                  rw [hb1] at HH3
                  go_wp2_with fail
                  refine (HH3.out _).mono ?_
                  rintro e w5 ⟨rfl, hb3⟩
                  have HA3 := Lib.hid (HA.out.trans (hb3.mono hbs))
                  have HO3 := Lib.hid (owns_below2 HO.out hb3)
                  have hbs3 : w.heap.size + 1 ≤ w5.heap.size := Nat.le_trans hbs hb3.size
                  clear hb3 HO HA hbs a0 a1 a2 a3
                  have HA := HA3; have HO := HO3; have hbs := hbs3
                  clear HA3 HO3 hbs3
                  go_wp2
                  go_roundw
                  case rel => exact ⟨d + 1, by have := HX.out; omega, by rw [HX.out]; go_num, fun j a b => by
                      have e := HX.out
                      by_cases hj : j ≤ x
                      · exact HAL.out j a hj
                      · rw [show j = x + 1 by omega]; exact hb1, HO.out, HA.out⟩
                  case measure => first | (simp [intOf]; done) | (simp [intOf]; omega)
                | false =>
                  rw [hb1] at HH3
                  have HE : Hid (Mid q (0 + 1) (x + 1) ∧ Rn q (x + 1) = Rn q 0 ++ [(0, x)]) := ⟨HME.out (Or.inr hb1), HBL.out⟩
                  clear hb1
                  go_wp2_with fail
                  refine (HH3.out _).mono ?_
                  rintro e w5 ⟨rfl, hb3⟩
                  have HA3 := Lib.hid (HA.out.trans (hb3.mono hbs))
                  have HO3 := Lib.hid (owns_below2 HO.out hb3)
                  have hbs3 : w.heap.size + 1 ≤ w5.heap.size := Nat.le_trans hbs hb3.size
                  clear hb3 HO HA hbs a0 a1 a2 a3
                  have HA := HA3; have HO := HO3; have hbs := hbs3
                  clear HA3 HO3 hbs3
                  go_wp2_with (at_builtin; refine wpList_app2 rfl (.tmp 36) (.tmp 42) 115 rfl (w.heap.size + 1) 117 i0 (.agg #[.int .u8 0, .int .u8 0]) 2 Try.underlying115 hi0 hz0 hz1 hz2 rfl _ _ _ rfl HO.out (.int .u8 0) (.int .u8 (x : Int)) rfl rfl rfl (by unfold maxLen; omega) (by omega) wA HA.out hbs ?_)
                  intro g4 cap4 w4 hown4 hb4
                  have HO4 := Lib.hid hown4; have HA4 := Lib.hid hb4
                  clear hown4 hb4 HO HA
                  go_wp2
                  go_roundw
                  case rel =>
                    refine ⟨0 + 1, x + 1, cap4, some ⟨g4, 0, none⟩, by omega, HE.out.1, by go_num, by rw [HE.out.2]; simp, ?_, HA4.out⟩
                    have := HO4.out
                    rw [HE.out.2, ← pcells_snoc]
                    simpa using this
                  case measure => first | (simp [intOf]; done) | (simp [intOf]; omega)
              · obtain rfl : x = 255 := by omega
                have HE : Hid (Mid q (0 + 1) (255 + 1) ∧ Rn q (255 + 1) = Rn q 0 ++ [(0, 255)]) := ⟨HME.out (Or.inl rfl), HBL.out⟩
                go_wp2_with (at_builtin; refine wpList_app2 rfl (.tmp 36) (.tmp 42) 115 rfl (w.heap.size + 1) 117 i0 (.agg #[.int .u8 0, .int .u8 0]) 2 Try.underlying115 hi0 hz0 hz1 hz2 rfl _ _ _ rfl HO.out (.int .u8 0) (.int .u8 255) rfl rfl rfl (by unfold maxLen; omega) (by omega) wA HA.out hbs ?_)
                intro g4 cap4 w4 hown4 hb4
                have HO4 := Lib.hid hown4; have HA4 := Lib.hid hb4
                clear hown4 hb4 HO HA
                go_wp2
                go_roundw
                case rel =>
                  refine ⟨0 + 1, 255 + 1, cap4, some ⟨g4, 0, none⟩, by omega, HE.out.1, by go_num, by rw [HE.out.2]; simp, ?_, HA4.out⟩
                  have := HO4.out
                  rw [HE.out.2, ← pcells_snoc]
                  simpa using this
                case measure => first | (simp [intOf]; done) | (simp [intOf]; omega)
    · obtain rfl : k = 256 := by omega
      obtain rfl : m = 256 := by have := hmid.1; have := hmid.2.1; omega
      clear hown hA hmid
      go_wp2
      go_ret
      exact ⟨A, cap, rfl, prs_owns (w := wA) (by rw [HZ.out]; exact HO.out), HB.out.trans (HA.out.mono (by omega))⟩
end Go.Proofs.Ytkljagffccommaa
namespace Go.Proofs.Ytkljagffccommaa
open Go.RowKit
set_option maxRecDepth 100000 in
set_option maxHeartbeats 1000000 in
theorem bytes2_any (q : Nat → BitVec 64) (w : World) : Calls Try.prog 100 #[.agg (cw q)] w (GivesB w (byl q 256)) := by
  obtain ⟨i0, hi0, hz0, hz1, hz2⟩ := info_parts Try.info5
  have h1 := CB.new w q
  have hbl : Below w.heap.size w (w.alloc (.cells (cw q) 26)) := (Below.refl _ _).alloc (Nat.le_refl _) _
  have hsz : (w.alloc (.cells (cw q) 26)).heap.size = w.heap.size + 1 := by simp
  have HC := Lib.hid h1; have HB := Lib.hid hbl; have HZ := Lib.hid hsz
  clear h1 hbl hsz
  unfold cw at HC HB HZ ⊢
  go_enter Try.func100, Try.ntmps100
  go_wp2_with fail
  generalize w.alloc (.cells #[.int .u64 (uv (q 0)), .int .u64 (uv (q 1)), .int .u64 (uv (q 2)), .int .u64 (uv (q 3))] 26) = wA at HC HB HZ ⊢
  go_loopw [3, 4] (fun v i wr => ∃ (k cap : Nat) (A : Option Addr), k ≤ 256 ∧ i = .int .i64 k ∧ v = .slice A (byl q k).length cap ∧ wr.ownsRow (w.heap.size + 1) 5 1 (.slice A (byl q k).length cap) (byl q k).length (yvals (byl q k)) ∧ Below (w.heap.size + 1) wA wr) (fun _ i _ => 256 - (intOf i).toNat)
  case atStart =>
    have hl := World.ownsRow_lit (base := w.heap.size + 1) (e := 5) (size := 1) wA #[] 0 (by rw [HZ.out]; exact Nat.le_refl _) (Nat.zero_le _) (by simp)
    rw [HZ.out] at hl
    exact ⟨0, 0, some ⟨w.heap.size + 1, 0, none⟩, by omega, rfl, rfl, hl, (Below.refl _ _).alloc (by rw [HZ.out]; exact Nat.le_refl _) _⟩
  case round =>
    obtain ⟨k, cap, A, hk, rfl, rfl, hown, hA⟩ := hrel
    have HO := Lib.hid hown; have HA := Lib.hid hA
    have hpl := byl_le q k
    have hbs : w.heap.size + 1 ≤ wr.heap.size := by have := hA.size; rw [HZ.out] at this; exact this
    by_cases hlt : k < 256
    · have hc : CB wr w.heap.size q := HC.out.below hA (by omega)
      have a0 := hc.cell 0 (by omega); have a1 := hc.cell 1 (by omega); have a2 := hc.cell 2 (by omega); have a3 := hc.cell 3 (by omega)
      have HH := Lib.hid (has2_any q k wr hlt)
      unfold cw at HH
      have hkw : IntKind.u8.wrap (k : Int) = (k : Int) := by rw [IntKind.wrap_u8']; omega
      clear hown hc hA
      cases hbk : kb q k with
      | false =>
        have HP : Hid (byl q (k + 1) = byl q k) := byl_skip q k hbk
        rw [hbk] at HH
        clear hbk
        go_wp2_with fail
        refine HH.out.mono ?_
        rintro e w3 ⟨rfl, hb3⟩
        have HA3 := Lib.hid (HA.out.trans (hb3.mono hbs))
        have HO3 := Lib.hid (owns_below HO.out hb3)
        clear hb3 HH HO HA
        go_wp2
        go_roundw
        case rel => exact ⟨k + 1, cap, A, by omega, by go_num, by rw [HP.out], by rw [HP.out]; exact HO3.out, HA3.out⟩
        case measure => simp [intOf]; omega
      | true =>
        have HP : Hid (byl q (k + 1) = byl q k ++ [k]) := byl_take q k hbk
        rw [hbk] at HH
        clear hbk
        generalize byl q k = l at *
        go_wp2_with fail
        refine HH.out.mono ?_
        rintro e w3 ⟨rfl, hb3⟩
        have HA3 := Lib.hid (HA.out.trans (hb3.mono hbs))
        have HO3 := Lib.hid (owns_below HO.out hb3)
        have hbs3 : w.heap.size + 1 ≤ w3.heap.size := Nat.le_trans hbs hb3.size
        clear hb3 HH HO HA
        go_wp2_with (at_builtin; refine wpList_app1 rfl (.tmp 13) (.tmp 16) 23 rfl (w.heap.size + 1) 5 i0 (.int .u8 0) 1 Try.underlying23 hi0 hz0 hz1 hz2 rfl _ _ _ rfl HO3.out (.int .u8 (k : Int)) rfl rfl (by unfold maxLen; omega) (by omega) wA HA3.out hbs3 ?_)
        intro g4 cap4 w4 hown4 hb4
        have HO4 := Lib.hid hown4; have HA4 := Lib.hid hb4
        clear hown4 hb4 HO3 HA3
        go_wp2
        go_roundw
        case rel =>
          refine ⟨k + 1, cap4, some ⟨g4, 0, none⟩, by omega, by go_num, by rw [HP.out]; simp, ?_, HA4.out⟩
          have := HO4.out
          rw [yvals_snoc] at this
          rw [HP.out]
          simpa using this
        case measure => simp [intOf]; omega
    · obtain rfl : k = 256 := by omega
      clear hown hA
      go_wp2
      go_ret
      exact givesB_owns (byl_lt q 256 (by omega)) rfl (owns_mono HO.out (by omega)) (HB.out.trans (HA.out.mono (by omega)))
end Go.Proofs.Ytkljagffccommaa
