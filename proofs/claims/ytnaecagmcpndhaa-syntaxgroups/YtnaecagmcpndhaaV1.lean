/- SyntaxRow: its walk. -/
import Derived.Test.YtnaecagmcpndhaaU3
import Derived.Test.YtnaecagmcpndhaaM1
namespace Go.Proofs.Ytnaecagmcpndhaa
open Go.RowKit
/-- a text that is read as a term -/
def Read (w : World) (t : Tm) (e : Ending) (w' : World) : Prop := ∃ d, e = .returned (.tuple #[d.val, .int .i64 0, .int .i64 0]) ∧ TV w' (Sn w.heap.size w') t d ∧ Below w.heap.size w w'
theorem parse_reads (A : Option Addr) (c : Nat) (bs : List Nat) (w : World) (t : Tm) (hx : Bts w A bs) (h : parseF bs = (t, 0, 0)) : Calls Try.prog 14 #[.slice A bs.length c] w (Read w t) := by
  have := parse_any A c bs w hx
  rw [h] at this
  exact this
set_option maxRecDepth 100000 in
set_option maxHeartbeats 4000000 in
theorem row_walk (A : Option Addr) (c : Nat) (bs : List Nat) (w : World) (hx : Bts w A bs) (lx : bs.length ≤ 140737488355328) : Calls Try.prog 8 #[.slice A bs.length c] w (Tells w (.bool true)) := by
  have S := Lib.hid (speaks_any w)
  by_cases h2 : bs.length < 2
  · have q1 : (bs.length : Int) < 2 := by omega
    clear hx
    go_enter Try.func8, Try.ntmps8
    go_wp2_with fail
    refine S.out.mono ?_
    rintro e w1 ⟨rfl, hb1⟩
    have B := Lib.hid hb1
    clear hb1 S
    go_wp2
    go_ret
    exact ⟨rfl, B.out⟩
  by_cases h3 : 200 < bs.length
  · have q1 : ¬ (bs.length : Int) < 2 := by omega
    have q2 : (200 : Int) < (bs.length : Int) := by omega
    clear hx
    go_enter Try.func8, Try.ntmps8
    go_wp2_with fail
    refine S.out.mono ?_
    rintro e w1 ⟨rfl, hb1⟩
    have B := Lib.hid hb1
    clear hb1 S
    go_wp2
    go_ret
    exact ⟨rfl, B.out⟩
  obtain ⟨bb, off, rfl, hlt, hc⟩ := hx.2 (by omega)
  have q1 : ¬ (bs.length : Int) < 2 := by omega
  have q2 : ¬ (200 : Int) < (bs.length : Int) := by omega
  have HX := Lib.hid hx; have HC := Lib.hid hc
  clear hx hc
  go_enter Try.func8, Try.ntmps8
  go_wp2_with fail
  refine S.out.mono ?_
  rintro e w1 ⟨rfl, hb1⟩
  have B := Lib.hid hb1
  clear hb1 S
  go_wp2_with fail
  go_loopw [23] (fun v wr => ∃ i : Nat, i ≤ bs.length ∧ v = .int .i64 (i : Nat) ∧ wr = w1 ∧ Hid (∀ j, j < i → 97 ≤ bn bs j ∧ bn bs j ≤ 122)) (fun v _ => bs.length - (intOf v).toNat)
  case atStart => exact ⟨0, Nat.zero_le _, rfl, rfl, fun j hj => absurd hj (by omega)⟩
  case round =>
    obtain ⟨i, hi, rfl, rfl, hL⟩ := hrel
    by_cases hil : i < bs.length
    · have qi : (i : Int) < (bs.length : Int) := by omega
      have ci : wr.cell? ⟨bb, off + i, none⟩ = some (.int .u8 (bn bs i : Nat)) := (B.out.cell (p := ⟨bb, off + i, none⟩) hlt).trans (HC.out i hil)
      obtain ⟨y, hy⟩ : ∃ y, bn bs i = y := ⟨_, rfl⟩
      rw [hy] at ci
      by_cases y1 : y < 97
      · have p1 : (y : Int) < 97 := by omega
        clear hy y1
        go_wp2
        go_ret
        exact ⟨rfl, B.out⟩
      by_cases y2 : 122 < y
      · have p1 : ¬ (y : Int) < 97 := by omega
        have p2 : (122 : Int) < (y : Int) := by omega
        clear hy y1 y2
        go_wp2
        go_ret
        exact ⟨rfl, B.out⟩
      have p1 : ¬ (y : Int) < 97 := by omega
      have p2 : ¬ (122 : Int) < (y : Int) := by omega
      have q6 : IntKind.i64.wrap ((i : Int) + 1) = ((i + 1 : Nat) : Int) := by rw [IntWalk.i64_in _ (by omega)]; omega
      have L2 : Hid (∀ j, j < i + 1 → 97 ≤ bn bs j ∧ bn bs j ≤ 122) := fun j hj => by
        rcases Nat.lt_or_ge j i with h | h
        · exact hL.out j h
        · have : j = i := by omega
          subst this; omega
      clear hL hy y1 y2
      go_wp2_with fail
      go_roundw
      case rel => exact ⟨i + 1, by omega, by simp, by first | rfl | simp, L2⟩
      case measure => simp [intOf]; omega
    · have hin : i = bs.length := by omega
      subst hin
      have D1 := Lib.hid (parse_reads (some ⟨bb, off, none⟩) c bs wr _ (HX.out.below B.out) (parse_low bs (by omega) (by omega) hL.out))
      have ne : 0 < bs.length := by omega
      go_wp2_with fail
      refine D1.out.mono ?_
      rintro e w2 ⟨d, rfl, hv, hb2⟩
      have B2 := Lib.hid (B.out.trans (hb2.mono B.out.size))
      obtain ⟨q, KA, kc, ds, rfl, _, hds, hrow, hkid⟩ := hv.tr.look
      rw [rowT_len] at hds
      obtain ⟨kb, koff, rfl, hkb, hkc⟩ := hrow (by omega)
      have T2 : Hid (TB (w2.alloc (.cells #[.int .i64 6, .int .u64 (uv (q 0)), .int .u64 (uv (q 1)), .int .u64 (uv (q 2)), .int .u64 (uv (q 3)), .int .i64 0, .int .i64 0, .slice (some ⟨kb, koff, none⟩) bs.length kc] 29)) w2.heap.size ⟨6, q, 0, 0, some ⟨kb, koff, none⟩, bs.length, kc⟩) := TB.new w2 ⟨6, q, 0, 0, some ⟨kb, koff, none⟩, bs.length, kc⟩
      have HK := Lib.hid hkid; have HKC := Lib.hid hkc; have HDS := Lib.hid hds
      have B3 : Hid (Below w.heap.size w (w2.alloc (.cells #[.int .i64 6, .int .u64 (uv (q 0)), .int .u64 (uv (q 1)), .int .u64 (uv (q 2)), .int .u64 (uv (q 3)), .int .i64 0, .int .i64 0, .slice (some ⟨kb, koff, none⟩) bs.length kc] 29))) := B2.out.alloc B2.out.size _
      have e5 := rowT_len bs
      unfold TD.val
      simp only [rowT_len]
      clear hv hb2 D1 hkid hkc hds hrow B e5
      go_wp2_with fail
      go_loopw [58] (fun v wr => ∃ i : Nat, i ≤ bs.length ∧ v = .int .i64 (i : Nat) ∧ Hid (Below w.heap.size w wr ∧ Below w2.heap.size w2 wr)) (fun v _ => bs.length - (intOf v).toNat)
      case atStart => exact ⟨0, Nat.zero_le _, rfl, ⟨B3.out, below_new w2 _⟩⟩
      case round =>
        obtain ⟨i, hi, rfl, hW⟩ := hrel
        obtain ⟨b1, b2⟩ := hW.out
        by_cases hil : i < bs.length
        · have qi : (i : Int) < (bs.length : Int) := by omega
          have hi4 : i < ds.length := by have := HDS.out; omega
          have ci : wr.cell? ⟨bb, off + i, none⟩ = some (.int .u8 (bn bs i : Nat)) := (b1.cell (p := ⟨bb, off + i, none⟩) hlt).trans (HC.out i hil)
          obtain ⟨a0, a1, a2, a3, a4, a5, a6, a7⟩ := kid_cells b2 hkb HKC.out (List.getElem?_eq_getElem hi4)
          have KT := Lib.hid ((HK.out i _ _ (rowT_at bs i hil) (List.getElem?_eq_getElem hi4)).keeps b2)
          have bbl : bb < wr.heap.size := Nat.lt_of_lt_of_le hlt b1.size
          have kbl : kb < wr.heap.size := Nat.lt_of_lt_of_le hkb b2.size
          have yl := HX.out.1 i
          obtain ⟨y, hy⟩ : ∃ y, bn bs i = y := ⟨_, rfl⟩
          rw [hy] at ci KT yl
          generalize ds[i] = dt at *
          have yr := hL.out i hil
          rw [hy] at yr
          have u0 : uv (oneq y 0) = 0 := by unfold oneq; rw [if_neg (by omega)]; rfl
          have u1 : uv (oneq y 1) = IntKind.u64.wrap ((2 : Int) ^ (y % 64)) := by unfold oneq; rw [if_pos (by omega), uv_pow _ (by omega)]
          have u2 : uv (oneq y 2) = 0 := by unfold oneq; rw [if_neg (by omega)]; rfl
          have u3 : uv (oneq y 3) = 0 := by unfold oneq; rw [if_neg (by omega)]; rfl
          have D2 := fun (W : World) (h1 : TR W (one y) dt) => same_any (one y) (one y) dt ⟨2, oneq y, 0, 0, none, 0, 0⟩ W h1 (TV.leaf W (fun _ => True) 2 (rgF y y) 0 0 (oneq y) none 0 (oneq_is y yl)).tr
          rw [sameT_refl] at D2
          unfold TD.val at D2
          simp only [u0, u1, u2, u3] at D2
          have D2 := Lib.hid D2
          have b3 := below_new wr (.cells dt.cells 29)
          have b4 := below_new (wr.alloc (.cells dt.cells 29)) (.cells #[.int .u64 0, .int .u64 (IntKind.u64.wrap ((2 : Int) ^ (y % 64))), .int .u64 0, .int .u64 0] 26)
          have bd := b3.trans (b4.mono (by simp))
          have K2 := Lib.hid (KT.out.keeps bd)
          have W4 : Hid (Below w.heap.size w ((wr.alloc (.cells dt.cells 29)).alloc (.cells #[.int .u64 0, .int .u64 (IntKind.u64.wrap ((2 : Int) ^ (y % 64))), .int .u64 0, .int .u64 0] 26)) ∧ Below w2.heap.size w2 ((wr.alloc (.cells dt.cells 29)).alloc (.cells #[.int .u64 0, .int .u64 (IntKind.u64.wrap ((2 : Int) ^ (y % 64))), .int .u64 0, .int .u64 0] 26))) := ⟨b1.trans (bd.mono b1.size), b2.trans (bd.mono b2.size)⟩
          have q6 : IntKind.i64.wrap ((i : Int) + 1) = ((i + 1 : Nat) : Int) := by rw [IntWalk.i64_in _ (by omega)]; omega
          unfold TD.cells at K2 W4
          clear hy b1 b2 T2 hi4 u0 u1 u2 u3 yr yl b3 b4 bd KT hW
          go_wp2_with fail
          refine (D2.out _ K2.out).mono ?_
          rintro e w5 ⟨rfl, hb5⟩
          have W5 : Hid (Below w.heap.size w w5 ∧ Below w2.heap.size w2 w5) := ⟨W4.out.1.trans (hb5.mono W4.out.1.size), W4.out.2.trans (hb5.mono W4.out.2.size)⟩
          clear D2 K2 W4 hb5 a0 a1 a2 a3 a4 a5 a6 a7 ci
          go_wp2_with fail
          go_roundw
          case rel => exact ⟨i + 1, by omega, by simp, W5⟩
          case measure => simp [intOf]; omega
        · have hin : i = bs.length := by omega
          subst hin
          clear b1 b2
          go_wp2
          go_ret
          exact ⟨rfl, hW.out.1⟩
end Go.Proofs.Ytnaecagmcpndhaa
