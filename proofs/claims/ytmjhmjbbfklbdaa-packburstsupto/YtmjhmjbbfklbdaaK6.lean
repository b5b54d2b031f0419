/- PackBursts: its walk. -/
import Derived.Test.YtmjhmjbbfklbdaaK5
namespace Go.Proofs.Ytmjhmjbbfklbdaa
open Go.RowKit

set_option maxRecDepth 100000 in
set_option maxHeartbeats 4000000 in
theorem packBursts_walk (B : Option Addr) (cb : Nat) (bs : List Nat) (at_ : Int) (x : Nat) (w : World) (hb : Bts w B bs) (hB : B = none → cb = 0) (lb : bs.length ≤ 1048576) (a1 : -9223372036854775808 ≤ at_) (a2 : at_ ≤ 9223372036854775807) (hx : x < 4294967296) :
    Calls Try.prog 7 #[.slice B bs.length cb, .int .i64 at_, .int .u32 (x : Nat)] w fun e w' => e = .returned (.bool true) ∧ Below w.heap.size w w' := by
  have S := Lib.hid (speaks_any w)
  have HB := Lib.hid hb; have HN := Lib.hid hB
  have hmem := bn_mem hb.1
  have D1 : Hid (∀ W, Hid (Bts W B bs) → Calls Try.prog 22 #[.int .u8 7, .slice B bs.length cb] W (GivesN W (frame 7 bs))) := fun W h => seal_any 7 B cb bs W (by omega) h.out hB (by omega)
  have DU : Hid (∀ (v : Nat), v < 256 → ∀ W A c l, Bts W A l → (A = none → c = 0) → l.length ≤ c → l.length ≤ 2000000 → Calls Try.prog 23 #[.int .u8 (v : Nat), .slice A l.length c] W (GivesP W (bod v l) (chk v l))) := fun v hv W A c l h1 h2 h3 h4 => unseal_any v A c l W hv h1 h2 h3 (by omega)
  have lf := len_frame 7 bs
  have T0 := Lib.hid fun room fr => turned_zero bs hmem x room fr
  have CC := Lib.hid fun t ht => chk_cut 7 bs (by omega) t ht
  have CT := Lib.hid fun y => chk_tail 7 bs (by omega) y
  have C8 : Hid (chk 8 (frame 7 bs) = 42) := chk_other 8 7 bs (by omega)
  have CB : Hid (∀ (l : List Nat) (F fr : Nat), Like 7 bs l → F < 4294967296 → F ≠ 0 → 64 + fr ≤ 8 * l.length → num l = num (frame 7 bs) ^^^ F * 2 ^ (64 + fr) → chk 7 l = 44) := fun l F fr h1 h2 h3 h4 h5 => burst 7 bs l (by omega) hmem (by omega) h1 F fr h2 h3 h4 h5
  have CE : Hid (∀ l : List Nat, Like 7 bs l → num l = num (frame 7 bs) → chk 7 l = 0 ∧ bod 7 l = bs) := fun l h1 h2 => by
    obtain rfl := num_inj h1.2.1 (frame_lt 7 bs (by omega) hmem) h1.1 h2
    exact ⟨chk_frame 7 bs (by omega) hmem (by omega), bod_frame 7 bs (by omega) hmem (by omega)⟩
  have HT : Hid (∀ l room fr k, Turned bs x room fr k l → l.length = (frame 7 bs).length) := fun l room fr k h => h.1.1
  have HTL : Hid (∀ l room fr k, Turned bs x room fr k l → Like 7 bs l) := fun l room fr k h => h.1
  have HTN : Hid (∀ l room fr k, Turned bs x room fr k l → num l = num (frame 7 bs) ^^^ fl x room k * 2 ^ (64 + fr)) := fun l room fr k h => h.2
  generalize frame 7 bs = F at *
  obtain ⟨m, hm⟩ : ∃ m : Nat, at_ % 16777216 = (m : Int) := ⟨(at_ % 16777216).toNat, by omega⟩
  have hm2 : m < 16777216 := by omega
  have ha : bits .and .i64 at_ 16777215 = (m : Int) := by rw [i64_and24, hm]
  obtain ⟨fr, hfr⟩ : ∃ fr, fr = m % (8 * (F.length - 8)) := ⟨_, rfl⟩
  have hfr2 : fr < 8 * (F.length - 8) := by rw [hfr]; exact Nat.mod_lt _ (by omega)
  have hfr3 : (m : Int) % (8 * ((F.length : Int) - 8)) = (fr : Int) := by
    rw [hfr, show (8 * ((F.length : Int) - 8)) = ((8 * (F.length - 8) : Nat) : Int) by omega]; rfl
  have hfr4 : (m : Int).tmod (8 * ((F.length : Int) - 8)) = (fr : Int) := by rw [Int.tmod_eq_emod_of_nonneg (by omega)]; exact hfr3
  obtain ⟨t, ht⟩ : ∃ t, t = m % F.length := ⟨_, rfl⟩
  have ht2 : t < F.length := by rw [ht]; exact Nat.mod_lt _ (by omega)
  have ht3 : (m : Int) % (F.length : Int) = (t : Int) := by rw [ht]; rfl
  have ht4 : (m : Int).tmod (F.length : Int) = (t : Int) := by rw [Int.tmod_eq_emod_of_nonneg (by omega)]; exact ht3
  have z1 : ((F.length : Int) != (bs.length : Int) + 12) = false := by simp; omega
  have z2 : ((F.length : Int) == (bs.length : Int) + 12) = true := by simp; omega
  have l1 : F.length ≤ 1048588 := by omega
  have l2 : 12 ≤ F.length := by omega
  have HLF := Lib.hid lf
  clear hb hB hmem hm hfr ht lf
  go_enter Try.func7, Try.ntmps7
  go_wp2_with fail
  refine S.out.mono ?_
  rintro e w1 ⟨rfl, hb1⟩
  have X1 := step_bts HB hb1; have B1 := Lib.hid hb1
  clear hb1 HB S
  go_wp2_with fail
  with_reducible refine (D1.out _ X1).mono ?_
  rintro e w2 ⟨A2, c2, rfl, ho2, hb2, _⟩
  have O2 := Lib.hid ho2; have X2 := step_bts X1 hb2; have B2 := step_below B1 hb2
  clear X1 B1 ho2 hb2 D1
  go_wp2_with (at_builtin; refine app_copy rfl (.tmp 40) (.tmp 41) rfl A2 c2 F O2.out.bts O2.out.2.2 (by omega) rfl rfl ?_)
  intro A3 c3 w3 hy3 hn3 hb3
  have O3 : Own w3 A3 c3 F := ⟨hy3.mono (Nat.zero_le _), O2.out.2.1, hn3⟩
  obtain ⟨g, rfl⟩ := own_addr O3 (by omega)
  have hg : w2.heap.size ≤ g := (hy3.lt g rfl).1
  have Z3 := Lib.hid O3; have B3 := Lib.hid hb3
  clear O3 hy3 hn3 hb3
  have cap3 := Z3.out.cap
  go_wp2_with fail
  go_loopw [10, 12] (fun ch i wr => ∃ (k : Nat) (l : List Nat) (q : Bool), k ≤ 32 ∧ i = .int .i64 k ∧ ch = .bool q ∧ Hid (q = decide (fl x (8 * (F.length - 8) - fr) k ≠ 0)) ∧ Own wr (some ⟨g, 0, none⟩) c3 l ∧ Turned bs x (8 * (F.length - 8) - fr) fr k l ∧ Below w2.heap.size w2 wr) (fun _ i _ => 32 - (intOf i).toNat)
  case atStart => exact ⟨0, F, false, by omega, rfl, rfl, rfl, Z3.out, T0.out _ _, B3.out⟩
  case round =>
    obtain ⟨k, l, q, hk, rfl, rfl, hq, ho, ht, hb⟩ := hrel
    clear Z3 B3 T0
    have O1 := Lib.hid ho; have T1 := Lib.hid ht; have B1 := Lib.hid hb
    by_cases hlt : k < 32
    · have hlow := low_bit32 x k hx
      by_cases hbit : x / 2 ^ k % 2 = 1
      · rw [hbit] at hlow
        have hlow2 : bits .and .u32 ((x : Int) / 2 ^ k) 1 = 1 := hlow
        clear hlow
        by_cases hroom : k < 8 * (F.length - 8) - fr
        · have hin : 8 + (fr + k) / 8 < l.length := by rw [HT.out l _ _ _ ht]; omega
          have hin2 : 8 + (fr + k) / 8 < F.length := by omega
          obtain ⟨c1, f1⟩ := ho.at_ _ hin
          have hT := Lib.hid (turned_step ht ⟨hbit, hroom⟩ hin)
          have hF := Lib.hid (fl_pos x _ k ⟨hbit, hroom⟩)
          have hy : bn l (8 + (fr + k) / 8) < 256 := mem_bn ho.2.1 _
          have hp : 2 ^ ((fr + k) % 8) < 256 := Nat.pow_lt_pow_right (a := 2) (n := 8) (by omega) (by omega)
          have hxy := Nat.xor_lt_two_pow (n := 8) hy hp
          have hX := Lib.hid (u8_xor_nat _ _ hy hp)
          have O2' := Lib.hid (ho.stored (8 + (fr + k) / 8) _ hxy)
          clear ho ht hb
          obtain ⟨j, hj⟩ : ∃ j, (fr + k) / 8 = j := ⟨_, rfl⟩
          obtain ⟨sh, hsh⟩ : ∃ sh, (fr + k) % 8 = sh := ⟨_, rfl⟩
          have r1 : ((fr : Int) + (k : Int)) / 8 = (j : Int) := by omega
          have r2 : ((fr : Int) + (k : Int)) % 8 = (sh : Int) := by omega
          have r3 : (fr : Int) + (k : Int) < 8 * ((F.length : Int) - 8) := by omega
          have r4 : sh < 8 := by omega
          rw [hj] at hin hin2 c1 f1 hT O2' hX hxy hy
          rw [hsh] at hT O2' hX hp hxy
          clear hj hsh
          have r5 : (8 : Int) + (j : Int) < (F.length : Int) := by omega
          have r6 : ((8 : Int) + (j : Int)).toNat = 8 + j := by omega
          generalize bn l (8 + j) = y at *
          have HE : Hid (bits .xor .u8 (y : Int) ((2 : Int) ^ sh % 256) = ((y ^^^ 2 ^ sh : Nat) : Int)) := by
            have e : (2 : Int) ^ sh % 256 = ((2 ^ sh : Nat) : Int) := by
              have key : ∀ P : Nat, P < 256 → (P : Int) % 256 = (P : Int) := fun P h => by omega
              have h2 : (2 : Int) ^ sh = ((2 ^ sh : Nat) : Int) := by simp
              rw [h2]; exact key _ hp
            show bits .xor .u8 (y : Int) ((2 : Int) ^ sh % 256) = _
            rw [e]; exact hX.out
          go_wp2_with fail
          go_roundw
          case rel =>
            rw [HE.out]
            exact ⟨k + 1, _, true, by omega, by go_num, rfl, (by show true = _; rw [decide_eq_true hF.out]), O2'.out, hT.out, B1.out.setCell hg _⟩
          case measure => simp [intOf]; omega
        · have hT := Lib.hid (turned_same ht (fun h => hroom h.2))
          have HQ : Hid (q = decide (fl x (8 * (F.length - 8) - fr) (k + 1) ≠ 0)) := by
            show q = _
            rw [fl_same _ _ _ (fun h => hroom h.2)]; exact hq.out
          have r3 : ¬ (fr : Int) + (k : Int) < 8 * ((F.length : Int) - 8) := by omega
          clear ho ht hb hq hbit
          go_wp2_with fail
          go_roundw
          case rel => exact ⟨k + 1, l, q, by omega, by go_num, rfl, HQ, O1.out, hT.out, B1.out⟩
          case measure => simp [intOf]; omega
      · have h0 : x / 2 ^ k % 2 = 0 := by omega
        rw [h0] at hlow
        have hlow2 : bits .and .u32 ((x : Int) / 2 ^ k) 1 = 0 := hlow
        have hT := Lib.hid (turned_same ht (fun h => hbit h.1))
        have HQ : Hid (q = decide (fl x (8 * (F.length - 8) - fr) (k + 1) ≠ 0)) := by
          show q = _
          rw [fl_same _ _ _ (fun h => hbit h.1)]; exact hq.out
        clear ho ht hb hq hbit hlow h0
        go_wp2_with fail
        go_roundw
        case rel => exact ⟨k + 1, l, q, by omega, by go_num, rfl, HQ, O1.out, hT.out, B1.out⟩
        case measure => simp [intOf]; omega
    · obtain rfl : k = 32 := by omega
      have ll : l.length = F.length := HT.out l _ _ _ ht
      have hfl := fl_lt x (8 * (F.length - 8) - fr) 32
      obtain ⟨code, bd, DG, HC⟩ : ∃ (code : Nat) (bd : List Nat), Hid (Calls Try.prog 23 #[.int .u8 7, .slice (some ⟨g, 0, none⟩) F.length c3] wr (GivesP wr bd code)) ∧ Hid ((q = true ∧ code = 44 ∧ bd = []) ∨ (q = false ∧ code = 0 ∧ bd = bs)) := by
        refine ⟨chk 7 l, bod 7 l, ?_, ?_⟩
        · have := DU.out 7 (by omega) wr (some ⟨g, 0, none⟩) c3 l ho.bts (fun h => by cases h) ho.cap (by omega)
          rw [ll] at this; exact this
        · show (_ ∨ _)
          by_cases hz : fl x (8 * (F.length - 8) - fr) 32 = 0
          · refine .inr ⟨by rw [hq.out, hz]; rfl, ?_⟩
            have hn := HTN.out l _ _ _ ht
            rw [hz, Nat.zero_mul, Nat.xor_zero] at hn
            exact CE.out l (HTL.out l _ _ _ ht) hn
          · have hc := CB.out l _ fr (HTL.out l _ _ _ ht) (by simpa using hfl) hz (by omega) (HTN.out l _ _ _ ht)
            refine .inl ⟨by rw [hq.out, decide_eq_true hz], hc, ?_⟩
            unfold bod; rw [if_neg (by rw [hc]; decide)]
      obtain ⟨y, hy⟩ : ∃ y : Nat, (x : Int) % 256 = (y : Int) := ⟨x % 256, by omega⟩
      have hy2 : y < 256 := by omega
      obtain ⟨A5, b5, n5, _, _, s5, _⟩ := cut_any A2 c2 F 0 t (by omega) (by omega) O2.out.cap O2.out.2.2
      replace s5 := s5 rfl
      simp only [Nat.sub_zero] at s5 n5
      have t5 : (sub F 0 t).length = t := by rw [len_sub _ _ _ (by omega)]; omega
      have DH : Hid (∀ W, Hid (Own W A2 c2 F) → Calls Try.prog 23 #[.int .u8 7, .slice A5 t c2] W (GivesP W [] 40)) := fun W h => by
        have := DU.out 7 (by omega) W A5 c2 (sub F 0 t) (b5 W h.out.bts) n5 (by have := h.out.cap; omega) (by omega)
        have hc := CC.out t ht2
        rw [t5, hc, show bod 7 (sub F 0 t) = [] by unfold bod; rw [if_neg (by rw [hc]; decide)]] at this
        exact this
      have DI : Hid (∀ W A c l, Hid (l = F ++ [y]) → Own W A c l → Calls Try.prog 23 #[.int .u8 7, .slice A l.length c] W (GivesP W [] 43)) := fun W A c l hl h => by
        have h2 := DU.out 7 (by omega) W A c l h.bts h.2.2 h.cap (by rw [hl.out, List.length_append]; simp; omega)
        have hc := CT.out y
        rw [← hl.out] at hc
        rw [hc, show bod 7 l = [] by unfold bod; rw [if_neg (by rw [hc]; decide)]] at h2
        exact h2
      have DJ : Hid (∀ W, Hid (Own W A2 c2 F) → Calls Try.prog 23 #[.int .u8 8, .slice A2 F.length c2] W (GivesP W [] 42)) := fun W h => by
        have h2 := DU.out 8 (by omega) W A2 c2 F h.out.bts h.out.2.2 h.out.cap (by omega)
        have hc := C8.out
        rw [hc, show bod 8 F = [] by unfold bod; rw [if_neg (by rw [hc]; decide)]] at h2
        exact h2
      have S5 := Lib.hid s5
      have HY := Lib.hid hy
      clear ho ht hb hq ll hfl b5 n5 t5 s5 hy O1 T1 DU CC CT C8 CB CE HT HTL HTN
      go_wp2_with fail
      with_reducible refine DG.out.mono ?_
      rintro e w4 ⟨A4, c4, rfl, hp4, _, hb4⟩
      have P4 := Lib.hid hp4
      have F4 := Lib.hid (B1.out.trans (hb4.mono B1.out.size))
      have O4 := step_own O2 F4.out
      have X4 := step_bts X2 F4.out
      have v4 := conv_bts c4 P4.out
      have v5 := conv_bts cb X4.out
      clear hp4 hb4 B1 DG
      have s5 := S5.out
      rcases HC.out with ⟨rfl, rfl, rfl⟩ | ⟨rfl, rfl, rfl⟩
      all_goals
        go_wp2_with fail
        with_reducible refine (DH.out _ O4).mono ?_
        rintro e w5 ⟨A6, c6, rfl, _, _, hb5⟩
        have F5 := Lib.hid (F4.out.trans (hb5.mono F4.out.size))
        have O5 := step_own O2 F5.out
        clear hb5 v4 v5 s5 P4
        go_wp2_with (at_builtin; refine app_copy rfl (.tmp 115) (.tmp 116) rfl A2 c2 F O5.out.bts O5.out.2.2 (by omega) rfl rfl ?_)
        intro A7 c7 w7 hy7 hn7 hb7
        have F7 := Lib.hid (F5.out.trans (hb7.mono F5.out.size))
        have Z7 : Hid (Own w7 A7 c7 F) := ⟨hy7.mono (Nat.zero_le _), O2.out.2.1, hn7⟩
        have G7 : Hid (∀ j, ow A7 = some j → w2.heap.size ≤ j) := fun j hj => by
          have h1 := (hy7.lt j (by rw [ow_own, hj])).1
          have h2 := F5.out.size
          omega
        have ZA := Lib.hid (Z7.out.alloc (.cells #[.int .u8 (y : Nat)] 5))
        have FA := Lib.hid (F7.out.alloc F7.out.size (.cells #[.int .u8 (y : Nat)] 5))
        have XA := Lib.hid (bts_one w7 y hy2)
        have hyy := HY.out
        clear hy7 hn7 hb7 O5 F5
        go_wp2_with (at_builtin; refine appB rfl (.tmp 117) (.tmp 120) rfl A7 c7 F ZA.out _ 1 [y] XA.out (fun h => by cases h) (by simp; omega) rfl rfl ?_)
        intro A8 c8 l8 w8 hl8 ho8 hg8 hr8
        have F8 := Lib.hid (FA.out.trans (grown_below (B := w2.heap.size) hg8 G7.out FA.out.size))
        have O8 := Lib.hid ho8
        clear ho8 hg8 hr8 ZA FA XA Z7 F7 hyy
        go_wp2_with fail
        with_reducible refine (DI.out _ _ _ _ hl8 O8.out).mono ?_
        rintro e w9 ⟨A9, c9, rfl, _, _, hb9⟩
        have F9 := Lib.hid (F8.out.trans (hb9.mono F8.out.size))
        have O9 := step_own O2 F9.out
        clear hb9 F8 O8
        go_wp2_with fail
        with_reducible refine (DJ.out _ O9).mono ?_
        rintro e w10 ⟨A10, c10, rfl, _, _, hb10⟩
        have F10 := Lib.hid (F9.out.trans (hb10.mono F9.out.size))
        clear hb10 F9 O9
        go_wp2
        go_ret
        exact ⟨rfl, B2.out.trans (F10.out.mono B2.out.size)⟩
end Go.Proofs.Ytmjhmjbbfklbdaa
