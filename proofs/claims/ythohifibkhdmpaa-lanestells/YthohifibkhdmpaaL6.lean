/- Walks over the lanes package and its reference: Load, Pick. -/
import Derived.Test.YthohifibkhdmpaaL5
namespace Go.Proofs.Ythohifibkhdmpaa
open Go.RowKit

/-- bytes in memory -/
def bn (bs : List Nat) (j : Nat) : Nat := bs.getD j 0
def Bts (w : World) (A : Option Addr) (bs : List Nat) : Prop :=
  (∀ j, bn bs j < 256) ∧ (0 < bs.length → ∃ b off, A = some ⟨b, off, none⟩ ∧ b < w.heap.size ∧ ∀ j, j < bs.length → w.cell? ⟨b, off + j, none⟩ = some (.int .u8 (bn bs j : Nat)))
theorem Bts.below {w w' : World} {A : Option Addr} {bs : List Nat} (h : Bts w A bs) (hb : Below w.heap.size w w') : Bts w' A bs := ⟨h.1, fun h0 => by
  obtain ⟨b, off, e, hlt, hc⟩ := h.2 h0
  exact ⟨b, off, e, Nat.lt_of_lt_of_le hlt hb.size, fun j hj => (hb.cell (p := ⟨b, off + j, none⟩) hlt).trans (hc j hj)⟩⟩

/-- the byte of a text that lies k behind i -/
def ld (bs : List Nat) (i : Int) (k : Nat) : Nat := if 0 ≤ i + k ∧ i + k < bs.length then bn bs (i + k).toNat else 0
theorem ld_lt {bs : List Nat} (h : ∀ j, bn bs j < 256) (i : Int) (k : Nat) : ld bs i k < 256 := by
  unfold ld; split
  · exact h _
  · omega

set_option maxHeartbeats 1000000 in
theorem load1_any (A : Option Addr) (c : Nat) (bs : List Nat) (i : Int) (k gt gi : Nat) (w : World) (hx : Bts w A bs) (lx : bs.length ≤ 140737488355328) (hi1 : -9223372036854775808 ≤ i) (hi2 : i ≤ 9223372036854775807) (hk : k < 8)
    (c1 : w.cell? ⟨gi, 0, none⟩ = some (.int .i64 i)) (c2 : w.cell? ⟨gt, 0, none⟩ = some (.slice A bs.length c)) :
    Calls Try.prog 33 #[.int .i64 (k : Nat), .pointer (some ⟨gi, 0, none⟩), .pointer (some ⟨gt, 0, none⟩)] w fun e w' => e = .returned (.int .u8 (ld bs i k : Nat)) ∧ w = w' := by
  by_cases h1 : 0 ≤ i + k ∧ i + k < bs.length
  · obtain ⟨j, hj⟩ : ∃ j : Nat, i + k = (j : Int) := ⟨(i + k).toNat, by omega⟩
    have e : ld bs i k = bn bs j := by unfold ld; rw [if_pos h1, hj]; rfl
    obtain ⟨b, off, rfl, _, hc⟩ := hx.2 (by omega)
    have c3 := hc j (by omega)
    have hjl : j < bs.length := by omega
    rw [e]
    generalize bn bs j = y at *
    generalize bs.length = n at *
    obtain rfl : i = (j : Int) - k := by omega
    clear h1 e hx hc hj
    go_enter Try.func33, Try.ntmps33
    go_wp2
    go_ret
    exact ⟨rfl, rfl⟩
  · have e : ld bs i k = 0 := by unfold ld; rw [if_neg h1]
    rw [e]
    generalize bs.length = n at *
    clear e hx
    by_cases h2 : 9223372036854775807 < i + k
    · have e2 : wrap64 (i + k) < 0 := by unfold wrap64; omega
      have e3 : decide (0 ≤ wrap64 (i + k)) = false := by simpa using e2
      clear h1
      go_enter Try.func33, Try.ntmps33
      go_wp2
      go_ret
      exact ⟨rfl, rfl⟩
    · by_cases h3 : 0 ≤ i + k
      · have h4 : (n : Int) ≤ i + k := by omega
        clear h1
        go_enter Try.func33, Try.ntmps33
        go_wp2
        go_ret
        exact ⟨rfl, rfl⟩
      · clear h1
        go_enter Try.func33, Try.ntmps33
        go_wp2
        go_ret
        exact ⟨rfl, rfl⟩

set_option maxHeartbeats 400000 in
theorem load_any (A : Option Addr) (c : Nat) (bs : List Nat) (i : Int) (w : World) (hx : Bts w A bs) (lx : bs.length ≤ 140737488355328) (hi1 : -9223372036854775808 ≤ i) (hi2 : i ≤ 9223372036854775807) :
    Calls Try.prog 15 #[.slice A bs.length c, .int .i64 i] w (GivesW w (wo (ld bs i) 8)) := by
  generalize hW : (w.alloc (.cells #[.slice A bs.length c] 27)).alloc (.cells #[.int .i64 i] 3) = W
  have c2 : W.cell? ⟨w.heap.size, 0, none⟩ = some (.slice A bs.length c) := by subst hW; exact ((Bx.new w 27 _).alloc _).cell
  have c3 : W.cell? ⟨w.heap.size + 1, 0, none⟩ = some (.int .i64 i) := by
    subst hW
    have := (Bx.new (w.alloc (.cells #[.slice A bs.length c] 27)) 3 (.int .i64 i)).cell
    rw [World.size_alloc] at this; exact this
  have hb : Below w.heap.size w W := by
    subst hW
    exact ((Below.refl _ _).alloc (Nat.le_refl _) _).alloc (by simp) _
  have T : Tells W 33 #[.pointer (some ⟨w.heap.size + 1, 0, none⟩), .pointer (some ⟨w.heap.size, 0, none⟩)] (ld bs i) := fun k hk m =>
    (load1_any A c bs i k w.heap.size (w.heap.size + 1) (W.drewN m) (hx.below (below_drewN hb m)) lx hi1 hi2 hk c3 c2).mono fun e w' ⟨he, hw⟩ => ⟨he, m, hw.symm⟩
  have H := Lib.hid (fill_any 33 _ _ _ (fun _ _ => rfl) (fun k _ => ld_lt hx.1 i k) T)
  have HB := Lib.hid hb
  clear c2 c3 T hb hx
  subst hW
  go_enter Try.func15, Try.ntmps15
  go_wp2_with fail
  refine H.out.mono ?_
  rintro e w' ⟨rfl, m, rfl⟩
  go_wp2
  go_ret
  exact ⟨rfl, below_drewN HB.out m⟩

/-- what the reference has found, up to the text's byte K and its lane J -/
def pl (bs : List Nat) (i : Int) (K J j : Nat) : Nat := if 0 ≤ i + j ∧ (i + j < K ∨ i + j = K ∧ j < J) then bn bs (i + j).toNat else 0
theorem pl_zero (bs : List Nat) (i : Int) : pl bs i 0 0 = fun _ => 0 := by
  funext j; unfold pl; rw [if_neg (by omega)]
theorem pl_next (bs : List Nat) (i : Int) (K j : Nat) (hj : j < 8) : pl bs i K 8 j = pl bs i (K + 1) 0 j := by
  unfold pl
  by_cases h : 0 ≤ i + j ∧ (i + j < K ∨ i + j = K ∧ j < 8)
  · rw [if_pos h, if_pos (by omega)]
  · rw [if_neg h, if_neg (by omega)]
theorem pl_hit (bs : List Nat) (i : Int) (K J j : Nat) (h : (K : Int) - J = i) : (if j = J then bn bs K else pl bs i K J j) = pl bs i K (J + 1) j := by
  unfold pl
  by_cases e : j = J
  · subst e; rw [if_pos rfl, if_pos (by omega)]; congr 1; omega
  · rw [if_neg e]
    by_cases h2 : 0 ≤ i + j ∧ (i + j < K ∨ i + j = K ∧ j < J)
    · rw [if_pos h2, if_pos (by omega)]
    · rw [if_neg h2, if_neg (by omega)]
theorem pl_miss (bs : List Nat) (i : Int) (K J j : Nat) (h : ¬ (K : Int) - J = i) : pl bs i K J j = pl bs i K (J + 1) j := by
  unfold pl
  by_cases h2 : 0 ≤ i + j ∧ (i + j < K ∨ i + j = K ∧ j < J)
  · rw [if_pos h2, if_pos (by omega)]
  · rw [if_neg h2, if_neg (by omega)]
theorem pl_all (bs : List Nat) (i : Int) (j : Nat) : pl bs i bs.length 0 j = ld bs i j := by
  unfold pl ld
  by_cases h2 : 0 ≤ i + j ∧ i + j < bs.length
  · rw [if_pos h2, if_pos (by omega)]
  · rw [if_neg h2, if_neg (by omega)]

set_option maxHeartbeats 1000000 in
theorem load2_any (A : Option Addr) (c : Nat) (bs : List Nat) (i : Int) (w : World) (hx : Bts w A bs) (lx : bs.length ≤ 140737488355328) (hi1 : -9223372036854775808 ≤ i) (hi2 : i ≤ 9223372036854775807) :
    Calls Try.prog 18 #[.slice A bs.length c, .int .i64 i] w (GivesW w (wo (ld bs i) 8)) := by
  have D3 : Hid (∀ W, Calls Try.prog 20 #[.agg (ar .i64 (ld bs i))] W (GivesW W (wo (ld bs i) 8))) := fun W => word2_any (ld bs i) W fun k _ => ld_lt hx.1 i k
  have h1 : AB (w.alloc (.cells (zz .i64) 31)) w.heap.size 31 .i64 (fun _ => 0) := AB.new w 31 .i64 (fun _ => 0)
  rw [← pl_zero bs i] at h1
  have H1 := Lib.hid h1
  have HB : Hid (Below w.heap.size w (w.alloc (.cells (zz .i64) 31))) := (Below.refl _ _).alloc (Nat.le_refl _) _
  have HX := Lib.hid hx
  clear h1 hx
  unfold ar at D3
  unfold zz at H1 HB
  go_enter Try.func18, Try.ntmps18
  go_wp2_with fail
  go_loopw [6] (fun ii wr => ∃ K : Nat, K ≤ bs.length ∧ ii = .int .i64 K ∧ AB wr w.heap.size 31 .i64 (pl bs i K 0) ∧ Below w.heap.size w wr) (fun ii _ => bs.length - (intOf ii).toNat)
  case atStart => exact ⟨0, by omega, rfl, H1.out, HB.out⟩
  case round =>
    obtain ⟨K, hK, rfl, h1, hb⟩ := hrel
    clear H1 HB
    have H1 := Lib.hid h1; have HB := Lib.hid hb
    by_cases hlt : K < bs.length
    · clear h1 hb
      go_wp2_with fail
      go_loopw [7] (fun jj wi => ∃ J : Nat, J ≤ 8 ∧ jj = .int .i64 J ∧ AB wi w.heap.size 31 .i64 (pl bs i K J) ∧ Below w.heap.size w wi) (fun jj _ => 8 - (intOf jj).toNat)
      case atStart => exact ⟨0, by omega, rfl, H1.out, HB.out⟩
      case round =>
        obtain ⟨J, hJ, rfl, h1, hb⟩ := hrel
        clear H1 HB
        have H1 := Lib.hid h1; have HB := Lib.hid hb
        by_cases hltJ : J < 8
        · have c3 := h1.cell J hltJ
          have f3 := h1.frozen J
          by_cases hc : (K : Int) - J = i
          · obtain ⟨b, off, rfl, hbb, hcell⟩ := (HX.out.below hb).2 (by omega)
            have c4 := hcell K hlt
            have hy : bn bs K < 256 := HX.out.1 K
            have HS := Lib.hid ((h1.set_ J hltJ (bn bs K)).congr fun j _ => pl_hit bs i K J j hc)
            have q1 : ((K : Int) - J == i) = true := by simpa using hc
            clear hcell h1 hb hc
            generalize bn bs K = y at *
            go_wp2
            go_roundw
            case rel => exact ⟨J + 1, by omega, by go_num, HS.out, HB.out.setCell (Nat.le_refl _) _⟩
            case measure => simp [intOf]; omega
          · have HS := Lib.hid (h1.congr fun j _ => pl_miss bs i K J j hc)
            have q1 : ((K : Int) - J == i) = false := by simpa using hc
            clear h1 hb hc
            go_wp2
            go_roundw
            case rel => exact ⟨J + 1, by omega, by go_num, HS.out, HB.out⟩
            case measure => simp [intOf]; omega
        · obtain rfl : J = 8 := by omega
          have HS := Lib.hid (h1.congr fun j hj => pl_next bs i K j hj)
          clear h1 hb
          go_wp2
          go_roundw
          case rel => exact ⟨K + 1, by omega, by go_num, HS.out, HB.out⟩
          case measure => simp [intOf]; omega
    · obtain rfl : K = bs.length := by omega
      have h3 := h1.congr fun j _ => pl_all bs i j
      have a0 := h3.cell 0 (by omega); have a1 := h3.cell 1 (by omega); have a2 := h3.cell 2 (by omega); have a3 := h3.cell 3 (by omega)
      have a4 := h3.cell 4 (by omega); have a5 := h3.cell 5 (by omega); have a6 := h3.cell 6 (by omega); have a7 := h3.cell 7 (by omega)
      clear h1 h3 hb
      go_wp2_with fail
      refine (D3.out _).mono ?_
      rintro e w4 ⟨rfl, hb4⟩
      go_wp2
      go_ret
      exact ⟨rfl, HB.out.trans (hb4.mono HB.out.size)⟩

/-- an array of sixteen -/
def ar16 (q : Nat → Nat) : Array Value := #[.int .u8 (q 0 : Nat), .int .u8 (q 1 : Nat), .int .u8 (q 2 : Nat), .int .u8 (q 3 : Nat), .int .u8 (q 4 : Nat), .int .u8 (q 5 : Nat), .int .u8 (q 6 : Nat), .int .u8 (q 7 : Nat), .int .u8 (q 8 : Nat), .int .u8 (q 9 : Nat), .int .u8 (q 10 : Nat), .int .u8 (q 11 : Nat), .int .u8 (q 12 : Nat), .int .u8 (q 13 : Nat), .int .u8 (q 14 : Nat), .int .u8 (q 15 : Nat)]
/-- block g is just that array -/
def TB (w : World) (g : Nat) (q : Nat → Nat) : Prop := w.heap[g]? = some (.cells (ar16 q) 34 (0, 0))
theorem TB.lt {w : World} {g : Nat} {q : Nat → Nat} (h : TB w g q) : g < w.heap.size := by
  rcases Nat.lt_or_ge g w.heap.size with hlt | hge
  · exact hlt
  · unfold TB at h; rw [Array.getElem?_eq_none hge] at h; cases h
theorem TB.cell {w : World} {g : Nat} {q : Nat → Nat} (h : TB w g q) (j : Nat) (hj : j < 16) : w.cell? ⟨g, j, none⟩ = some (.int .u8 (q j : Nat)) := by
  rw [cell_of_row w g j (ar16 q) 34 (0, 0) h]
  match j, hj with
  | 0, _ => rfl
  | 1, _ => rfl
  | 2, _ => rfl
  | 3, _ => rfl
  | 4, _ => rfl
  | 5, _ => rfl
  | 6, _ => rfl
  | 7, _ => rfl
  | 8, _ => rfl
  | 9, _ => rfl
  | 10, _ => rfl
  | 11, _ => rfl
  | 12, _ => rfl
  | 13, _ => rfl
  | 14, _ => rfl
  | 15, _ => rfl
  | j + 16, h => exact absurd h (by omega)
theorem TB.new (w : World) (q : Nat → Nat) : TB (w.alloc (.cells (ar16 q) 34)) w.heap.size q := heap_alloc_new w _
theorem TB.alloc {w : World} {g : Nat} {q : Nat → Nat} (h : TB w g q) (o : Obj) : TB (w.alloc o) g q := (Below.heap_alloc w o g h.lt).trans h
theorem TB.below {w w' : World} {g B : Nat} {q : Nat → Nat} (h : TB w g q) (hb : Below B w w') (hg : g < B) : TB w' g q := (hb.block g hg).trans h
theorem TB.far {w : World} {g : Nat} {q : Nat → Nat} (h : TB w g q) {p : Addr} (hp : g ≠ p.block) (u : Value) : TB (w.setCell p u) g q := (Below.heap_setCell w p u g hp).trans h

set_option maxHeartbeats 400000 in
theorem pick1_any (q : Nat → Nat) (v k gt gv : Nat) (w : World) (ht : TB w gt q) (hv : v < 18446744073709551616) (hk : k < 8) (c1 : w.cell? ⟨gv, 0, none⟩ = some (.int .u64 (v : Nat))) :
    Calls Try.prog 36 #[.int .i64 (k : Nat), .pointer (some ⟨gt, 0, none⟩), .pointer (some ⟨gv, 0, none⟩)] w fun e w' => e = .returned (.int .u8 (q (ln v k % 16) : Nat)) ∧ w = w' := by
  have c2 := ht.cell (ln v k % 16) (by omega)
  have b1 := ln_lt v k
  have D := Lib.hid fun W => lane_any v k W hv hk
  clear ht
  generalize q (ln v k % 16) = y at *
  generalize ln v k = x at *
  have q1 : (0 : Int) ≤ (x : Int) % 16 := by omega
  have q2 : (x : Int) % 16 < 16 := by omega
  have q3 : ((x : Int) % 16).toNat = x % 16 := by omega
  go_enter Try.func36, Try.ntmps36
  go_wp2_with fail
  refine (D.out _).mono ?_
  rintro e w' ⟨rfl, rfl⟩
  go_wp2
  go_ret
  exact ⟨rfl, rfl⟩

/-- of each lane what a table has -/
def pk (q : Nat → Nat) (v k : Nat) : Nat := q (ln v k % 16)

set_option maxHeartbeats 400000 in
theorem pick_any (q : Nat → Nat) (v : Nat) (w : World) (hq : ∀ j, q j < 256) (hv : v < 18446744073709551616) :
    Calls Try.prog 23 #[.agg (ar16 q), .int .u64 (v : Nat)] w (GivesW w (wo (pk q v) 8)) := by
  generalize hW : (w.alloc (.cells (ar16 q) 34)).alloc (.cells #[.int .u64 (v : Nat)] 22) = W
  have c2 : TB W w.heap.size q := by subst hW; exact (TB.new w q).alloc _
  have c3 : W.cell? ⟨w.heap.size + 1, 0, none⟩ = some (.int .u64 (v : Nat)) := by
    subst hW
    have := (Bx.new (w.alloc (.cells (ar16 q) 34)) 22 (.int .u64 (v : Nat))).cell
    rw [World.size_alloc] at this; exact this
  have hb : Below w.heap.size w W := by
    subst hW
    exact ((Below.refl _ _).alloc (Nat.le_refl _) _).alloc (by simp) _
  have T : Tells W 36 #[.pointer (some ⟨w.heap.size, 0, none⟩), .pointer (some ⟨w.heap.size + 1, 0, none⟩)] (pk q v) := fun k hk m =>
    (pick1_any q v k w.heap.size (w.heap.size + 1) (W.drewN m) c2 hv hk c3).mono fun e w' ⟨he, hw⟩ => ⟨he, m, hw.symm⟩
  have H := Lib.hid (fill_any 36 _ _ _ (fun _ _ => rfl) (fun k _ => hq _) T)
  have HB := Lib.hid hb
  clear c2 c3 T hb hq
  subst hW
  unfold ar16 at *
  go_enter Try.func23, Try.ntmps23
  go_wp2_with fail
  refine H.out.mono ?_
  rintro e w' ⟨rfl, m, rfl⟩
  go_wp2
  go_ret
  exact ⟨rfl, below_drewN HB.out m⟩

set_option maxHeartbeats 1000000 in
theorem pick2_any (tq : Nat → Nat) (v : Nat) (w : World) (hq : ∀ j, tq j < 256) (hv : v < 18446744073709551616) :
    Calls Try.prog 24 #[.agg (ar16 tq), .int .u64 (v : Nat)] w (GivesW w (wo (pk tq v) 8)) := by
  have D1 := Lib.hid fun W => lanes2_any v W hv
  have D3 : Hid (∀ W, Calls Try.prog 20 #[.agg (ar .i64 (pk tq v))] W (GivesW W (wo (pk tq v) 8))) := fun W => word2_any (pk tq v) W fun k _ => hq _
  have e0 : Hid (upto (pk tq v) 0 = fun _ => 0) := rfl
  have HT := Lib.hid fun W => two_new W (ln v)
  have HL := Lib.hid (ln_lt v)
  have HF : Hid (∀ k, pk tq v k = tq (ln v k % 16)) := fun _ => rfl
  generalize pk tq v = F at *
  generalize ln v = q at *
  have HQ := Lib.hid hq
  have X1 : Hid (TB (w.alloc (.cells (ar16 tq) 34)) w.heap.size tq) := TB.new w tq
  have B1 : Hid (Below w.heap.size w (w.alloc (.cells (ar16 tq) 34))) := (Below.refl _ _).alloc (Nat.le_refl _) _
  unfold ar at D1 D3 HT
  unfold zz at HT
  unfold ar16 at X1 B1 ⊢
  clear hq
  go_enter Try.func24, Try.ntmps24
  go_wp2_with fail
  generalize w.alloc (.cells #[.int .u8 (tq 0 : Nat), .int .u8 (tq 1 : Nat), .int .u8 (tq 2 : Nat), .int .u8 (tq 3 : Nat), .int .u8 (tq 4 : Nat), .int .u8 (tq 5 : Nat), .int .u8 (tq 6 : Nat), .int .u8 (tq 7 : Nat), .int .u8 (tq 8 : Nat), .int .u8 (tq 9 : Nat), .int .u8 (tq 10 : Nat), .int .u8 (tq 11 : Nat), .int .u8 (tq 12 : Nat), .int .u8 (tq 13 : Nat), .int .u8 (tq 14 : Nat), .int .u8 (tq 15 : Nat)] 34) = w1 at *
  refine (D1.out _).mono ?_
  rintro e w2 ⟨rfl, hb2⟩
  have X2 := Lib.hid (X1.out.below hb2 X1.out.lt)
  have B2 := Lib.hid (B1.out.trans (hb2.mono B1.out.size))
  obtain ⟨t1, t3, t4⟩ := HT.out w2
  have T1 := Lib.hid t1; have T3 := Lib.hid t3; have T4 := Lib.hid (B2.out.trans (t4.mono B2.out.size))
  have X3 := Lib.hid (X2.out.below t4 X2.out.lt)
  have hs2 := B2.out.size
  have hs3 := X2.out.lt
  clear t1 t3 t4 B2 HT D1 X1 X2 B1 hb2
  go_wp2_with fail
  go_loopw [7] (fun i wr => ∃ k : Nat, k ≤ 8 ∧ i = .int .i64 k ∧ TB wr w.heap.size tq ∧ AB wr w2.heap.size 31 .i64 q ∧ AB wr (w2.heap.size + 1) 31 .i64 (upto F k) ∧ Below w.heap.size w wr) (fun i _ => 8 - (intOf i).toNat)
  case atStart => exact ⟨0, by omega, rfl, X3.out, T1.out, by rw [e0.out]; exact T3.out, T4.out⟩
  case round =>
    obtain ⟨k, hk, rfl, hx, h1, h3, hb⟩ := hrel
    clear T1 T3 T4 X3
    have HX := Lib.hid hx; have H1 := Lib.hid h1; have H3 := Lib.hid h3; have HB := Lib.hid hb
    have hg : w.heap.size ≤ w2.heap.size + 1 := by omega
    by_cases hlt : k < 8
    · have c1 := h1.cell k hlt
      have c3 := h3.cell k hlt
      have f3 := h3.frozen k
      have c4 := hx.cell (q k % 16) (by omega)
      have b1 : q k < 256 := HL.out k
      have b4 : tq (q k % 16) < 256 := HQ.out _
      have HK := Lib.hid (HF.out k)
      clear hx h1 h3 hb
      generalize tq (q k % 16) = y at *
      generalize q k = x at *
      have q1 : (0 : Int) ≤ (x : Int) % 16 := by omega
      have q2 : (x : Int) % 16 < 16 := by omega
      have q3 : ((x : Int) % 16).toNat = x % 16 := by omega
      go_wp2
      go_roundw
      case rel => exact ⟨k + 1, by omega, by go_num, HX.out.far (by simp; omega) _, H1.out.far (by simp) _, H3.out.step1 hlt _ (by rw [HK.out]), HB.out.setCell hg _⟩
      case measure => simp [intOf]; omega
    · obtain rfl : k = 8 := by omega
      have h3 := h3.full
      have a0 := h3.cell 0 (by omega); have a1 := h3.cell 1 (by omega); have a2 := h3.cell 2 (by omega); have a3 := h3.cell 3 (by omega)
      have a4 := h3.cell 4 (by omega); have a5 := h3.cell 5 (by omega); have a6 := h3.cell 6 (by omega); have a7 := h3.cell 7 (by omega)
      clear hx h1 h3 hb
      go_wp2_with fail
      refine (D3.out _).mono ?_
      rintro e w4 ⟨rfl, hb4⟩
      go_wp2
      go_ret
      exact ⟨rfl, HB.out.trans (hb4.mono HB.out.size)⟩
end Go.Proofs.Ythohifibkhdmpaa
