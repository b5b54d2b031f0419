/- CountMeans: its walk. -/
import Derived.Test.YtcognpfihojphaaL2
import Derived.Deep.DeepCutAuto
import Derived.Deep.CutBlock
namespace Go.Proofs.Ytcognpfihojphaa
open Go.RowKit

/-- what the law carries: the counter, its ages, the Sort; all old blocks -/
def CS (St : World → Nat → (Nat → Bool) → Prop) (b : Nat) (t : TypeId) (p : Option Addr) (q : Nat → BitVec 64) (L m kind : Int) (w wr : World) (n : Nat) (f : Nat → Bool) : Prop :=
  St wr n f ∧ CtB wr b t p q ∧ Rw wr w.heap.size (srt q L m kind) 26 ∧ Below w.heap.size w wr
theorem CS.below {St : World → Nat → (Nat → Bool) → Prop} {b : Nat} {t : TypeId} {p : Option Addr} {q : Nat → BitVec 64} {L m kind : Int} {w wr wr' : World} {n : Nat} {f : Nat → Bool} (h : CS St b t p q L m kind w wr n f)
    (hK : ∀ W W' n f, St W n f → Below W.heap.size W W' → St W' n f) (hb : Below wr.heap.size wr wr') : CS St b t p q L m kind w wr' n f :=
  ⟨hK _ _ _ _ h.1 hb, Rw.below h.2.1 hb (Rw.lt h.2.1), h.2.2.1.below hb h.2.2.1.lt, h.2.2.2.trans (hb.mono h.2.2.2.size)⟩
theorem CS.kp {St : World → Nat → (Nat → Bool) → Prop} {b : Nat} {t : TypeId} {p : Option Addr} {q : Nat → BitVec 64} {L m kind : Int} {w wr wr' : World} {n n' : Nat} {f f' : Nat → Bool} {o : List Nat} (h : CS St b t p q L m kind w wr n f)
    (hs : St wr' n' f') (hbo : b ∉ o) (hno : w.heap.size ∉ o) (hk : Kp o wr wr') (ho : ∀ k, k ∈ o → w.heap.size ≤ k) : CS St b t p q L m kind w wr' n' f' :=
  ⟨hs, Rw.kp h.2.1 hk hbo, h.2.2.1.kp hk hno, h.2.2.2.trans (hk.below ho h.2.2.2.size)⟩

theorem okc_eq (L m : Int) (k i : Nat) (h : i ≤ k) : okc L m (k - i) = !(decide ((k : Int) - (i : Int) < L) || (decide (0 ≤ m) && decide (m < (k : Int) - (i : Int)))) := by
  unfold okc
  rw [show ((k - i : Nat) : Int) = (k : Int) - (i : Int) by omega]

set_option maxRecDepth 100000 in
set_option maxHeartbeats 8000000 in
theorem means_walk (q : Nat → BitVec 64) (L m kind : Int) (A : Option Addr) (c : Nat) (bs : List Nat) (A2 : Option Addr) (c2 : Nat) (ar : List Bool) (w : World) (hL : -9223372036854775808 ≤ L ∧ L ≤ 9223372036854775807) (hm : -9223372036854775808 ≤ m ∧ m ≤ 9223372036854775807)
    (hx : K.Bts w A bs) (hy : Bls w A2 ar) (lx : bs.length ≤ 9223372036854775807) (ly : ar.length ≤ 9223372036854775807) :
    Calls Try.prog 5 #[.agg (srt q L m kind), .slice A bs.length c, .slice A2 ar.length c2] w fun e w' => e = .returned (.bool true) ∧ Below w.heap.size w w' := by
  have HS0 := Lib.hid (Rw.new w (srt q L m kind) 26)
  have HB0 : Hid (Below w.heap.size w (w.alloc (.cells (srt q L m kind) 26))) := (Below.refl _ _).alloc (Nat.le_refl _) _
  have HSp := Lib.hid (speaks_any (w.alloc (.cells (srt q L m kind) 26)))
  have HX := Lib.hid hx; have HY := Lib.hid hy
  clear hx hy
  unfold srt at *
  rcases new_cases q L m kind with hbad | ⟨l, T, S, hN, hT, hgood⟩
  · have HN := Lib.hid hbad
    unfold K.cw at HN
    clear hbad
    go_enter Try.func5, Try.ntmps5
    go_wp2_with fail
    refine HSp.out.mono ?_
    rintro e w1 ⟨rfl, hb1⟩
    have hc1 := HS0.out.below hb1 HS0.out.lt
    have a0 : w1.cell? ⟨w.heap.size, 0, none⟩ = some (.int .u64 (K.uv (q 0))) := Rw.cell hc1 0
    have a1 : w1.cell? ⟨w.heap.size, 1, none⟩ = some (.int .u64 (K.uv (q 1))) := Rw.cell hc1 1
    have a2 : w1.cell? ⟨w.heap.size, 2, none⟩ = some (.int .u64 (K.uv (q 2))) := Rw.cell hc1 2
    have a3 : w1.cell? ⟨w.heap.size, 3, none⟩ = some (.int .u64 (K.uv (q 3))) := Rw.cell hc1 3
    have a4 : w1.cell? ⟨w.heap.size, 4, none⟩ = some (.int .i64 L) := Rw.cell hc1 4
    have a5 : w1.cell? ⟨w.heap.size, 5, none⟩ = some (.int .i64 m) := Rw.cell hc1 5
    have a6 : w1.cell? ⟨w.heap.size, 6, none⟩ = some (.int .i64 kind) := Rw.cell hc1 6
    have HB1 := Lib.hid (HB0.out.trans (hb1.mono (by simp)))
    clear hb1 hc1 HSp HS0 HB0
    go_wp2_with fail
    refine (HN.out _).mono ?_
    rintro e w2 ⟨rfl, hb2⟩
    have HB2 := Lib.hid (HB1.out.trans (hb2.mono HB1.out.size))
    clear hb2 HB1 a0 a1 a2 a3 a4 a5 a6
    go_wp2
    go_ret
    exact ⟨rfl, HB2.out⟩
  · have HN := Lib.hid hgood
    unfold K.cw at HN
    have HNu := Lib.hid hN
    clear hgood hN
    go_enter Try.func5, Try.ntmps5
    go_wp2_with fail
    refine HSp.out.mono ?_
    rintro e w1 ⟨rfl, hb1⟩
    have hc1 := HS0.out.below hb1 HS0.out.lt
    have a0 : w1.cell? ⟨w.heap.size, 0, none⟩ = some (.int .u64 (K.uv (q 0))) := Rw.cell hc1 0
    have a1 : w1.cell? ⟨w.heap.size, 1, none⟩ = some (.int .u64 (K.uv (q 1))) := Rw.cell hc1 1
    have a2 : w1.cell? ⟨w.heap.size, 2, none⟩ = some (.int .u64 (K.uv (q 2))) := Rw.cell hc1 2
    have a3 : w1.cell? ⟨w.heap.size, 3, none⟩ = some (.int .u64 (K.uv (q 3))) := Rw.cell hc1 3
    have a4 : w1.cell? ⟨w.heap.size, 4, none⟩ = some (.int .i64 L) := Rw.cell hc1 4
    have a5 : w1.cell? ⟨w.heap.size, 5, none⟩ = some (.int .i64 m) := Rw.cell hc1 5
    have a6 : w1.cell? ⟨w.heap.size, 6, none⟩ = some (.int .i64 kind) := Rw.cell hc1 6
    have HB1 := Lib.hid (HB0.out.trans (hb1.mono (by simp)))
    have HS1 := Lib.hid hc1
    have hs1 := HS1.out.lt
    clear hb1 hc1 HSp HS0 HB0
    go_wp2_with fail
    refine (HN.out _).mono ?_
    rintro e w2 ⟨b, t, p, o, rfl, hct, ⟨St, hK, hSt, hown⟩, hbo, hbs, hb2⟩
    have HB2 := Lib.hid (HB1.out.trans (hb2.mono HB1.out.size))
    have HS2 := Lib.hid (HS1.out.below hb2 HS1.out.lt)
    have HC2 := Lib.hid hct; have HSt2 := Lib.hid hSt; have HK := Lib.hid hK; have HO := Lib.hid hown; have HBO := Lib.hid hbo
    have hno : Hid (w.heap.size ∉ o) := fun h => by have := hown _ h; omega
    have hlo := HB1.out.size
    clear hb2 HB1 a0 a1 a2 a3 a4 a5 a6 hct hSt hK hown hbo HN HS1
    by_cases h60 : 60 < bs.length
    · go_wp2
      go_ret
      exact ⟨rfl, HB2.out⟩
    · obtain ⟨kA, ⟨hmA, hcfA⟩, hA⟩ := HK.out.arm
      obtain ⟨kD, ⟨hmD, hcfD⟩, hDo⟩ := HK.out.done
      have HA := Lib.hid hA; have HDo := Lib.hid hDo
      clear hA hDo
      have hCS2 : CS St b t p q L m kind w w2 0 (ageH T S (fun j => K.kb q (K.bn bs j)) (fun i => decide (i < ar.length) && bd ar i) 0) := ⟨HSt2.out, HC2.out, HS2.out, HB2.out⟩
      have HCS2 := Lib.hid hCS2
      have hOw : Hid (∀ k, k ∈ o → w.heap.size ≤ k) := fun k hk => by have := HO.out k hk; omega
      have hkeep := Lib.hid HK.out.keep
      have hh : Hid (∀ j, (fun j => K.kb q (K.bn bs j)) j = K.kb q (K.bn bs j)) := fun _ => rfl
      have ham : Hid (∀ i, (fun i => decide (i < ar.length) && bd ar i) i = true ↔ i < ar.length ∧ bd ar i = true) := fun i => by simp
      have ham2 : Hid (∀ i, (fun i => decide (i < ar.length) && bd ar i) i = (decide (i < ar.length) && bd ar i)) := fun i => rfl
      generalize (fun j => K.kb q (K.bn bs j)) = h at *
      generalize (fun i => decide (i < ar.length) && bd ar i) = am at *
      clear hCS2 HSt2 HC2 HS2 HB2
      go_wp2
      go_loopw [9] (fun j wr => ∃ k n : Nat, k ≤ bs.length + 1 ∧ n ≤ k ∧ j = .int .i64 k ∧ CS St b t p q L m kind w wr n (ageH T S h am k)) (fun j _ => bs.length + 1 - (intOf j).toNat)
      case atStart => exact ⟨0, 0, by omega, by omega, rfl, HCS2.out⟩
      case round =>
        obtain ⟨k, n, hk, hn, rfl, hcs⟩ := hrel
        clear HCS2
        have HC := Lib.hid hcs
        clear hcs
        by_cases hlt : k ≤ bs.length
        · go_upto_if 52 with fail
          go_cut [] (fun wx => ∃ n' : Nat, n' ≤ k + 1 ∧ CS St b t p q L m kind w wx n' (ageG T S h am k))
          case first =>
            rcases k with _ | k
            · go_wp2
              go_meet
              exact ⟨n, by omega, HC.out⟩
            · obtain ⟨bb, off, rfl, hbb, hcell⟩ := (HX.out.below HC.out.2.2.2).2 (by omega)
              have hc1 := hcell k (by omega)
              have hx8 := HX.out.1 k
              have ek : ((k + 1 : Nat) : Int) - 1 = (k : Int) := by omega
              clear hcell
              cases hhk : h k with
              | true =>
                have D := Lib.hid (step_in HK.out b HBO.out q (K.bn bs k) n _ hx8 _ HC.out.2.1 HC.out.1 (by omega) (by rw [← hh.out]; exact hhk))
                rw [ageG_in hhk] at D
                generalize K.bn bs k = x at *
                clear hhk hx8
                go_wp2_with fail
                refine D.out.mono ?_
                rintro e w3 ⟨rfl, hs3, hc3, hk3⟩
                have HC3 := Lib.hid (HC.out.kp hs3 HBO.out hno.out hk3 hOw.out)
                clear hs3 hc3 hk3 D
                go_wp2
                go_meet
                exact ⟨n + 1, by omega, HC3.out⟩
              | false =>
                have D := Lib.hid (step_out HK.out b HBO.out q (K.bn bs k) n _ hx8 _ HC.out.2.1 HC.out.1 (by omega) (by rw [← hh.out]; exact hhk))
                rw [ageG_out (T := T) (S := S) (am := am) hhk] at D
                generalize K.bn bs k = x at *
                clear hhk hx8
                go_wp2_with fail
                refine D.out.mono ?_
                rintro e w3 ⟨rfl, hs3, hc3, hk3⟩
                have HC3 := Lib.hid (HC.out.kp hs3 HBO.out hno.out hk3 hOw.out)
                clear hs3 hc3 hk3 D
                go_wp2
                go_meet
                exact ⟨n + 1, by omega, HC3.out⟩
          case rest =>
            obtain ⟨n1, hn1, hcs1⟩ := hcut
            have HC1 := Lib.hid hcs1
            clear hcs1 HC
            go_upto_region 11 with fail
            go_cut [69] (fun s9 wx => s9 = .bool (am k) ∧ CS St b t p q L m kind w wx n1 (ageG T S h am k))
            case first =>
              by_cases hka : k < ar.length
              · obtain ⟨ba, off, rfl, hba, hcell⟩ := (HY.out.below HC1.out.2.2.2) (by omega)
                have hc1 := hcell k hka
                have e1 : am k = bd ar k := by rw [ham2.out, decide_eq_true hka, Bool.true_and]
                have E1 := Lib.hid e1
                clear hcell e1
                generalize bd ar k = z at *
                go_wp2
                go_meet
                exact ⟨congrArg Value.bool E1.out.symm, HC1.out⟩
              · have e1 : am k = false := by rw [ham2.out, decide_eq_false hka, Bool.false_and]
                have E1 := Lib.hid e1
                clear e1
                go_wp2
                go_meet
                exact ⟨congrArg Value.bool E1.out.symm, HC1.out⟩
            case rest =>
              obtain ⟨rfl, hcs2⟩ := hcut
              have HC2 := Lib.hid hcs2
              clear hcs2 HC1
              go_upto_if 69 with fail
              go_cut [] (fun wx => CS St b t p q L m kind w wx n1 (ageF T S h am k))
              case first =>
                cases hak : am k with
                | true =>
                  have eF : ageF T S h am k = agArm (ageG T S h am k) := by unfold ageF; rw [if_pos hak]
                  have EF := Lib.hid eF
                  have D := Lib.hid (HA.out _ _ _ HC2.out.1 (by omega))
                  have e0 := Rw.cell HC2.out.2.1 0
                  have e0' : wc.cell? ⟨b, 0, none⟩ = some (.iface t (.pointer p)) := e0
                  clear e0 eF
                  go_wp2_with fail
                  refine D.out.mono ?_
                  rintro e w3 ⟨rfl, hs3, hk3⟩
                  have HC3 := Lib.hid (HC2.out.kp hs3 HBO.out hno.out hk3 hOw.out)
                  clear hs3 hk3 D
                  go_wp2
                  go_meet
                  rw [EF.out]
                  exact HC3.out
                | false =>
                  have eF : ageF T S h am k = ageG T S h am k := by unfold ageF; rw [if_neg (by rw [hak]; exact Bool.false_ne_true)]
                  have EF := Lib.hid eF
                  clear eF
                  go_wp2
                  go_meet
                  rw [EF.out]
                  exact HC2.out
              case rest =>
                have HC3 := Lib.hid hcut
                clear hcut HC2
                go_wp2
                go_loopw [10, 11] (fun want i wr2 => ∃ ii : Nat, ii ≤ min (k + 1) ar.length ∧ i = .int .i64 ii ∧ want = .bool (wantF L m h (bd ar) k ii) ∧ CS St b t p q L m kind w wr2 n1 (ageF T S h am k)) (fun _ i _ => ar.length - (intOf i).toNat)
                case atStart => exact ⟨0, by omega, rfl, rfl, HC3.out⟩
                case round =>
                  obtain ⟨ii, hii, rfl, rfl, hcs4⟩ := hrel
                  have HC4 := Lib.hid hcs4
                  clear hcs4 HC3
                  by_cases hl2 : ii < min (k + 1) ar.length
                  · have hi1 : ii ≤ k := by omega
                    have hi2 : ii < ar.length := by omega
                    obtain ⟨ba, off, rfl, hba, hcell⟩ := (HY.out.below HC4.out.2.2.2) (by omega)
                    have hc1 := hcell ii hi2
                    clear hcell
                    obtain ⟨sk, hsk0⟩ : ∃ sk, (!(bd ar ii && okc L m (k - ii))) = sk := ⟨_, rfl⟩
                    have HSK := Lib.hid hsk0
                    clear hsk0
                    go_upto_region 17 with fail
                    go_cut [111] (fun s1 wx => s1 = .bool sk ∧ CS St b t p q L m kind w wx n1 (ageF T S h am k))
                    case first =>
                      have a4 : wr.cell? ⟨w.heap.size, 4, none⟩ = some (.int .i64 L) := Rw.cell HC4.out.2.2.1 4
                      have a5 : wr.cell? ⟨w.heap.size, 5, none⟩ = some (.int .i64 m) := Rw.cell HC4.out.2.2.1 5
                      have HO1 := Lib.hid (okc_eq L m k ii hi1)
                      cases hz : bd ar ii with
                      | false =>
                        rw [hz] at hc1
                        have HZ := Lib.hid hz
                        clear hz
                        go_wp2
                        go_meet
                        exact ⟨by rw [← HSK.out, HZ.out]; rfl, HC4.out⟩
                      | true =>
                        rw [hz] at hc1
                        have HZ := Lib.hid hz
                        clear hz
                        by_cases hd1 : (k : Int) - (ii : Int) < L
                        · have hd2 : decide ((k : Int) - (ii : Int) < L) = true := decide_eq_true hd1
                          have HE : Hid ((!(true && okc L m (k - ii))) = true) := by show _ = _; rw [HO1.out, hd2]; rfl
                          go_wp2
                          go_meet
                          exact ⟨by rw [← HSK.out, HZ.out, HE.out], HC4.out⟩
                        · have hd2 : decide ((k : Int) - (ii : Int) < L) = false := decide_eq_false hd1
                          by_cases hm0 : 0 ≤ m
                          · have hm2 : decide (0 ≤ m) = true := decide_eq_true hm0
                            have hm3 : decide (m ≥ 0) = true := decide_eq_true hm0
                            by_cases hd3 : m < (k : Int) - (ii : Int)
                            · have hd4 : decide (m < (k : Int) - (ii : Int)) = true := decide_eq_true hd3
                              have HE : Hid ((!(true && okc L m (k - ii))) = true) := by show _ = _; rw [HO1.out, hd2, hm2, hd4]; rfl
                              go_wp2
                              go_meet
                              exact ⟨by rw [← HSK.out, HZ.out, HE.out], HC4.out⟩
                            · have hd4 : decide (m < (k : Int) - (ii : Int)) = false := decide_eq_false hd3
                              have HE : Hid ((!(true && okc L m (k - ii))) = false) := by show _ = _; rw [HO1.out, hd2, hm2, hd4]; rfl
                              go_wp2
                              go_meet
                              exact ⟨by rw [← HSK.out, HZ.out, HE.out], HC4.out⟩
                          · have hm2 : decide (0 ≤ m) = false := decide_eq_false hm0
                            have hm3 : decide (m ≥ 0) = false := decide_eq_false hm0
                            have HE : Hid ((!(true && okc L m (k - ii))) = false) := by show _ = _; rw [HO1.out, hd2, hm2]; rfl
                            go_wp2
                            go_meet
                            exact ⟨by rw [← HSK.out, HZ.out, HE.out], HC4.out⟩
                    case rest =>
                      obtain ⟨rfl, hcs5⟩ := hcut
                      have HC5 := Lib.hid hcs5
                      clear hcs5 HC4 hc1
                      cases sk with
                      | true =>
                        have hsk : (bd ar ii && okc L m (k - ii)) = false := by have := HSK.out; cases h9 : (bd ar ii && okc L m (k - ii)) <;> simp_all
                        have HW := Lib.hid (wantF_skip (h := h) hsk)
                        clear hsk
                        go_wp2
                        go_roundw
                        case rel => exact ⟨ii + 1, by omega, by go_num, congrArg Value.bool HW.out.symm, HC5.out⟩
                        case measure => simp [intOf]; omega
                      | false =>
                        have hsk : (bd ar ii && okc L m (k - ii)) = true := by have := HSK.out; cases h9 : (bd ar ii && okc L m (k - ii)) <;> simp_all
                        have HW := Lib.hid (wantF_take (h := h) hsk)
                        clear hsk
                        go_wp2
                        go_loopw [12, 13] (fun al kk wr3 => ∃ k2 : Nat, ii ≤ k2 ∧ k2 ≤ k ∧ kk = .int .i64 k2 ∧ al = .bool (allF h ii k2) ∧ CS St b t p q L m kind w wr3 n1 (ageF T S h am k)) (fun _ kk _ => k - (intOf kk).toNat)
                        case atStart => exact ⟨ii, by omega, hi1, rfl, by rw [allF_self], HC5.out⟩
                        case round =>
                          obtain ⟨k2, hk21, hk22, rfl, rfl, hcs6⟩ := hrel
                          have HC6 := Lib.hid hcs6
                          clear hcs6 HC5
                          by_cases hl3 : k2 < k
                          · have HAS := Lib.hid (allF_succ h ii k2 hk21)
                            cases hal : allF h ii k2 with
                            | false =>
                              rw [hal] at HAS
                              go_wp2
                              first | go_quiet (fail) | fail
                              go_wp2
                              go_roundw
                              case rel => exact ⟨k2 + 1, by omega, by omega, by go_num, by rw [HAS.out]; rfl, HC6.out.below hkeep.out ⟨rfl, rfl, rfl, Nat.le_refl _, fun _ _ => rfl⟩⟩
                              case measure => simp [intOf]; omega
                            | true =>
                              rw [hal] at HAS
                              obtain ⟨bb, off2, rfl, hbb, hcell⟩ := (HX.out.below HC6.out.2.2.2).2 (by omega)
                              have hc8 := hcell k2 (by omega)
                              have hx8 := HX.out.1 k2
                              have a0 : wr.cell? ⟨w.heap.size, 0, none⟩ = some (.int .u64 (K.uv (q 0))) := Rw.cell HC6.out.2.2.1 0
                              have a1 : wr.cell? ⟨w.heap.size, 1, none⟩ = some (.int .u64 (K.uv (q 1))) := Rw.cell HC6.out.2.2.1 1
                              have a2 : wr.cell? ⟨w.heap.size, 2, none⟩ = some (.int .u64 (K.uv (q 2))) := Rw.cell HC6.out.2.2.1 2
                              have a3 : wr.cell? ⟨w.heap.size, 3, none⟩ = some (.int .u64 (K.uv (q 3))) := Rw.cell HC6.out.2.2.1 3
                              have D := Lib.hid fun W => K.has2_any q (K.bn bs k2) W hx8
                              rw [← hh.out] at D
                              unfold K.cw at D
                              generalize K.bn bs k2 = x at *
                              generalize h k2 = z at *
                              clear hcell
                              have z0 : (0 : Int) ≤ (k2 : Int) := by omega
                              have z1 : (k2 : Int) < (bs.length : Int) := by omega
                              have z2 : IntKind.i64.wrap (x : Int) = (x : Int) := by rw [IntKind.wrap_i64]; omega
                              go_wp2
                              go_region_held3 (fun w' => w'.cell? ⟨w.heap.size, 0, none⟩ = some (.int .u64 (K.uv (q 0))) ∧ w'.cell? ⟨w.heap.size, 1, none⟩ = some (.int .u64 (K.uv (q 1))) ∧ w'.cell? ⟨w.heap.size, 2, none⟩ = some (.int .u64 (K.uv (q 2))) ∧ w'.cell? ⟨w.heap.size, 3, none⟩ = some (.int .u64 (K.uv (q 3))) ∧ w'.cell? ⟨bb, off2 + k2, none⟩ = some (.int .u8 (x : Nat))) (first | go_keep | (refine ⟨?_, ?_, ?_, ?_, ?_⟩ <;> assumption)) ((go_at_call 19; refine (D.out _).mono ?_; rintro e w5 ⟨rfl, hb5⟩; have i0 := (hb5.cell (p := ⟨w.heap.size, 0, none⟩) HC6.out.2.2.1.lt).trans a0; have i1 := (hb5.cell (p := ⟨w.heap.size, 1, none⟩) HC6.out.2.2.1.lt).trans a1; have i2 := (hb5.cell (p := ⟨w.heap.size, 2, none⟩) HC6.out.2.2.1.lt).trans a2; have i3 := (hb5.cell (p := ⟨w.heap.size, 3, none⟩) HC6.out.2.2.1.lt).trans a3; have i4 := (hb5.cell (p := ⟨bb, off2 + k2, none⟩) hbb).trans hc8))
                              go_wp2
                              go_roundw
                              case rel => exact ⟨k2 + 1, by omega, by omega, by go_num, by rw [HAS.out]; rfl, HC6.out.below hkeep.out ⟨hb5.os, hb5.tape, hb5.output, hb5.size, hb5.block⟩⟩
                              case measure => simp [intOf]; omega
                          · obtain rfl : k2 = k := by omega
                            cases hw : wantF L m h (bd ar) k2 ii with
                            | true =>
                              rw [hw, Bool.true_or] at HW
                              go_wp2
                              go_roundw
                              case rel => exact ⟨ii + 1, by omega, by go_num, congrArg Value.bool HW.out.symm, HC6.out⟩
                              case measure => simp [intOf]; omega
                            | false =>
                              rw [hw, Bool.false_or] at HW
                              go_wp2
                              go_roundw
                              case rel => exact ⟨ii + 1, by omega, by go_num, congrArg Value.bool HW.out.symm, HC6.out⟩
                              case measure => simp [intOf]; omega
                  · have hii9 : ii = min (k + 1) ar.length := by omega
                    have hdw := done_want (L := l) (T := T) (S := S) (m := m) (h := h) (ar := bd ar) (am := am) (j := k) (n := ar.length) ham.out (by
                      rcases HNu.out.2.2 with ⟨e1, e2, e3⟩ | ⟨e1, e2, _, e3⟩
                      · exact .inl ⟨e1, e2, e3⟩
                      · exact .inr ⟨e1, e2, e3⟩)
                    have D := Lib.hid (HDo.out _ _ _ HC4.out.1 (by omega))
                    obtain rfl : L = (l : Int) := HNu.out.1
                    rw [hdw, show min (k + 1) ar.length = ii by omega] at D
                    have e0 : wr.cell? ⟨b, 0, none⟩ = some (.iface t (.pointer p)) := Rw.cell HC4.out.2.1 0
                    generalize wantF (l : Int) m h (bd ar) k ii = z at *
                    clear hdw
                    have hzz : (z != z) = false := by cases z <;> rfl
                    by_cases hw9 : ii ≤ k
                    · have hl9 : ¬ ii < ar.length := by omega
                      go_wp2_with fail
                      refine D.out.mono ?_
                      rintro e w5 ⟨rfl, hs5, hk5⟩
                      have HC5 := Lib.hid (HC4.out.kp hs5 HBO.out hno.out hk5 hOw.out)
                      clear hs5 hk5 D e0 HC4
                      go_wp2
                      go_roundw
                      case rel => exact ⟨k + 1, n1, by omega, by omega, by go_num, HC5.out⟩
                      case measure => simp [intOf]; omega
                    · go_wp2_with fail
                      refine D.out.mono ?_
                      rintro e w5 ⟨rfl, hs5, hk5⟩
                      have HC5 := Lib.hid (HC4.out.kp hs5 HBO.out hno.out hk5 hOw.out)
                      clear hs5 hk5 D e0 HC4
                      go_wp2
                      go_roundw
                      case rel => exact ⟨k + 1, n1, by omega, by omega, by go_num, HC5.out⟩
                      case measure => simp [intOf]; omega
        · have HF := Lib.hid HC.out.2.2.2
          go_wp2
          go_ret
          exact ⟨rfl, HF.out⟩
end Go.Proofs.Ytcognpfihojphaa
