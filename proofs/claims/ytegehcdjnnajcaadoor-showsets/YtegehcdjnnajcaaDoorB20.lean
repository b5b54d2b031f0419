/- The document's examples of layer 6. -/
import Derived.Test.YtegehcdjnnajcaaDoorB19
namespace Go.Proofs.YtegehcdjnnajcaaDoor
open Go.RowKit
theorem row_lit {w : World} {b : Nat} {C : Array Value} (hb : w.heap[b]? = some (.cells C 27 (0, 0))) (ds : List TD) (hC : C.toList = tcs ds) : RowAt w (some ⟨b, 0, none⟩) ds := fun h0 => by
  have hlt : b < w.heap.size := by
    rcases Nat.lt_or_ge b w.heap.size with h | h
    · exact h
    · rw [Array.getElem?_eq_none h] at hb; cases hb
  refine ⟨b, 0, rfl, hlt, fun i d hd j hj => ?_⟩
  rw [Nat.zero_add, cell_of_row w b _ C 27 (0, 0) hb, ← tcs_at ds i j d hd hj, ← hC, Array.getElem?_toList]
def opD (op : Int) (A : Option Addr) (n c : Nat) (lo hi : Int) : TD := ⟨op, fun _ => 0#64, lo, hi, A, n, c⟩
theorem opD_tr {w : World} {op lo hi : Int} {A : Option Addr} {c : Nat} (ks : List Tm) (ds : List TD) (hl : ds.length = ks.length) (hn : ks.length ≤ 9223372036854775807) (hk : ∀ (i : Nat) (t : Tm) (d : TD), ks[i]? = some t → ds[i]? = some d → TR w t d) (hr : RowAt w A ds) : TR w (.mk op noB lo hi ks) (opD op A ks.length c lo hi) :=
  .mk op noB lo hi ks (fun _ => 0#64) A c ds isK_zero hl hn hk hr
theorem leaf_tr (w : World) : TR w (.mk 1 noB 0 0 []) (opD 1 none 0 0 0 0) := opD_tr [] [] rfl (by simp) (fun i t d h => by simp at h) (fun h => by simp at h)
set_option maxRecDepth 100000 in
theorem cat_shows (q : Nat → BitVec 64) (w : World) (hq : IsK (memF [97]) q) (hp : Pow w) :
    Calls Tryd.prog 17 #[.agg #[.int .i64 8, .int .u64 0, .int .u64 0, .int .u64 0, .int .u64 0, .int .i64 2, .int .i64 2, .slice (some ⟨w.heap.size + 1 + 1, 0, none⟩) 1 1], .string ⟨#[40, 97, 40, 41, 41, 123, 50, 125]⟩] (((w.alloc (.cells #[.int .i64 2, .int .u64 (uv (q 0)), .int .u64 (uv (q 1)), .int .u64 (uv (q 2)), .int .u64 (uv (q 3)), .int .i64 0, .int .i64 0, .slice none 0 0, .int .i64 1, .int .u64 0, .int .u64 0, .int .u64 0, .int .u64 0, .int .i64 0, .int .i64 0, .slice none 0 0] 27)).alloc (.cells #[.int .i64 6, .int .u64 0, .int .u64 0, .int .u64 0, .int .u64 0, .int .i64 0, .int .i64 0, .slice (some ⟨w.heap.size, 0, none⟩) 2 2] 27)).alloc (.cells #[.int .i64 6, .int .u64 0, .int .u64 0, .int .u64 0, .int .u64 0, .int .i64 0, .int .i64 0, .slice (some ⟨w.heap.size, 0, none⟩) 2 2] 27)) (Tells (((w.alloc (.cells #[.int .i64 2, .int .u64 (uv (q 0)), .int .u64 (uv (q 1)), .int .u64 (uv (q 2)), .int .u64 (uv (q 3)), .int .i64 0, .int .i64 0, .slice none 0 0, .int .i64 1, .int .u64 0, .int .u64 0, .int .u64 0, .int .u64 0, .int .i64 0, .int .i64 0, .slice none 0 0] 27)).alloc (.cells #[.int .i64 6, .int .u64 0, .int .u64 0, .int .u64 0, .int .u64 0, .int .i64 0, .int .i64 0, .slice (some ⟨w.heap.size, 0, none⟩) 2 2] 27)).alloc (.cells #[.int .i64 6, .int .u64 0, .int .u64 0, .int .u64 0, .int .u64 0, .int .i64 0, .int .i64 0, .slice (some ⟨w.heap.size, 0, none⟩) 2 2] 27)) (.bool true)) ∧
    Below w.heap.size w (((w.alloc (.cells #[.int .i64 2, .int .u64 (uv (q 0)), .int .u64 (uv (q 1)), .int .u64 (uv (q 2)), .int .u64 (uv (q 3)), .int .i64 0, .int .i64 0, .slice none 0 0, .int .i64 1, .int .u64 0, .int .u64 0, .int .u64 0, .int .u64 0, .int .i64 0, .int .i64 0, .slice none 0 0] 27)).alloc (.cells #[.int .i64 6, .int .u64 0, .int .u64 0, .int .u64 0, .int .u64 0, .int .i64 0, .int .i64 0, .slice (some ⟨w.heap.size, 0, none⟩) 2 2] 27)).alloc (.cells #[.int .i64 6, .int .u64 0, .int .u64 0, .int .u64 0, .int .u64 0, .int .i64 0, .int .i64 0, .slice (some ⟨w.heap.size, 0, none⟩) 2 2] 27)) := by
  have b1 := below_new w (.cells #[.int .i64 2, .int .u64 (uv (q 0)), .int .u64 (uv (q 1)), .int .u64 (uv (q 2)), .int .u64 (uv (q 3)), .int .i64 0, .int .i64 0, .slice none 0 0, .int .i64 1, .int .u64 0, .int .u64 0, .int .u64 0, .int .u64 0, .int .i64 0, .int .i64 0, .slice none 0 0] 27)
  have b2 := below_new (w.alloc (.cells #[.int .i64 2, .int .u64 (uv (q 0)), .int .u64 (uv (q 1)), .int .u64 (uv (q 2)), .int .u64 (uv (q 3)), .int .i64 0, .int .i64 0, .slice none 0 0, .int .i64 1, .int .u64 0, .int .u64 0, .int .u64 0, .int .u64 0, .int .i64 0, .int .i64 0, .slice none 0 0] 27)) (.cells #[.int .i64 6, .int .u64 0, .int .u64 0, .int .u64 0, .int .u64 0, .int .i64 0, .int .i64 0, .slice (some ⟨w.heap.size, 0, none⟩) 2 2] 27)
  have b3 := below_new ((w.alloc (.cells #[.int .i64 2, .int .u64 (uv (q 0)), .int .u64 (uv (q 1)), .int .u64 (uv (q 2)), .int .u64 (uv (q 3)), .int .i64 0, .int .i64 0, .slice none 0 0, .int .i64 1, .int .u64 0, .int .u64 0, .int .u64 0, .int .u64 0, .int .i64 0, .int .i64 0, .slice none 0 0] 27)).alloc (.cells #[.int .i64 6, .int .u64 0, .int .u64 0, .int .u64 0, .int .u64 0, .int .i64 0, .int .i64 0, .slice (some ⟨w.heap.size, 0, none⟩) 2 2] 27)) (.cells #[.int .i64 6, .int .u64 0, .int .u64 0, .int .u64 0, .int .u64 0, .int .i64 0, .int .i64 0, .slice (some ⟨w.heap.size, 0, none⟩) 2 2] 27)
  have b12 := b1.trans (b2.mono b1.size)
  have b13 := b12.trans (b3.mono b12.size)
  refine ⟨?_, b13⟩
  have h1 : (((w.alloc (.cells #[.int .i64 2, .int .u64 (uv (q 0)), .int .u64 (uv (q 1)), .int .u64 (uv (q 2)), .int .u64 (uv (q 3)), .int .i64 0, .int .i64 0, .slice none 0 0, .int .i64 1, .int .u64 0, .int .u64 0, .int .u64 0, .int .u64 0, .int .i64 0, .int .i64 0, .slice none 0 0] 27)).alloc (.cells #[.int .i64 6, .int .u64 0, .int .u64 0, .int .u64 0, .int .u64 0, .int .i64 0, .int .i64 0, .slice (some ⟨w.heap.size, 0, none⟩) 2 2] 27)).alloc (.cells #[.int .i64 6, .int .u64 0, .int .u64 0, .int .u64 0, .int .u64 0, .int .i64 0, .int .i64 0, .slice (some ⟨w.heap.size, 0, none⟩) 2 2] 27)).heap[w.heap.size]? = some (.cells #[.int .i64 2, .int .u64 (uv (q 0)), .int .u64 (uv (q 1)), .int .u64 (uv (q 2)), .int .u64 (uv (q 3)), .int .i64 0, .int .i64 0, .slice none 0 0, .int .i64 1, .int .u64 0, .int .u64 0, .int .u64 0, .int .u64 0, .int .i64 0, .int .i64 0, .slice none 0 0] 27 (0, 0)) := by
    rw [b3.block _ (by simp; omega), b2.block _ (by simp)]
    exact heap_alloc_new w _
  have h3 : (((w.alloc (.cells #[.int .i64 2, .int .u64 (uv (q 0)), .int .u64 (uv (q 1)), .int .u64 (uv (q 2)), .int .u64 (uv (q 3)), .int .i64 0, .int .i64 0, .slice none 0 0, .int .i64 1, .int .u64 0, .int .u64 0, .int .u64 0, .int .u64 0, .int .i64 0, .int .i64 0, .slice none 0 0] 27)).alloc (.cells #[.int .i64 6, .int .u64 0, .int .u64 0, .int .u64 0, .int .u64 0, .int .i64 0, .int .i64 0, .slice (some ⟨w.heap.size, 0, none⟩) 2 2] 27)).alloc (.cells #[.int .i64 6, .int .u64 0, .int .u64 0, .int .u64 0, .int .u64 0, .int .i64 0, .int .i64 0, .slice (some ⟨w.heap.size, 0, none⟩) 2 2] 27)).heap[w.heap.size + 1 + 1]? = some (.cells #[.int .i64 6, .int .u64 0, .int .u64 0, .int .u64 0, .int .u64 0, .int .i64 0, .int .i64 0, .slice (some ⟨w.heap.size, 0, none⟩) 2 2] 27 (0, 0)) := by
    have := heap_alloc_new ((w.alloc (.cells #[.int .i64 2, .int .u64 (uv (q 0)), .int .u64 (uv (q 1)), .int .u64 (uv (q 2)), .int .u64 (uv (q 3)), .int .i64 0, .int .i64 0, .slice none 0 0, .int .i64 1, .int .u64 0, .int .u64 0, .int .u64 0, .int .u64 0, .int .i64 0, .int .i64 0, .slice none 0 0] 27)).alloc (.cells #[.int .i64 6, .int .u64 0, .int .u64 0, .int .u64 0, .int .u64 0, .int .i64 0, .int .i64 0, .slice (some ⟨w.heap.size, 0, none⟩) 2 2] 27)) (.cells #[.int .i64 6, .int .u64 0, .int .u64 0, .int .u64 0, .int .u64 0, .int .i64 0, .int .i64 0, .slice (some ⟨w.heap.size, 0, none⟩) 2 2] 27)
    rw [World.size_alloc, World.size_alloc] at this
    exact this
  have r1 := row_lit h1 [setD q, opD 1 none 0 0 0 0] rfl
  have r3 := row_lit h3 [opD 6 (some ⟨w.heap.size, 0, none⟩) 2 2 0 0] rfl
  generalize hW : (((w.alloc (.cells #[.int .i64 2, .int .u64 (uv (q 0)), .int .u64 (uv (q 1)), .int .u64 (uv (q 2)), .int .u64 (uv (q 3)), .int .i64 0, .int .i64 0, .slice none 0 0, .int .i64 1, .int .u64 0, .int .u64 0, .int .u64 0, .int .u64 0, .int .i64 0, .int .i64 0, .slice none 0 0] 27)).alloc (.cells #[.int .i64 6, .int .u64 0, .int .u64 0, .int .u64 0, .int .u64 0, .int .i64 0, .int .i64 0, .slice (some ⟨w.heap.size, 0, none⟩) 2 2] 27)).alloc (.cells #[.int .i64 6, .int .u64 0, .int .u64 0, .int .u64 0, .int .u64 0, .int .i64 0, .int .i64 0, .slice (some ⟨w.heap.size, 0, none⟩) 2 2] 27)) = W at *
  have t6 : TR W (.mk 6 noB 0 0 [setT (memF [97]), .mk 1 noB 0 0 []]) (opD 6 (some ⟨w.heap.size, 0, none⟩) 2 2 0 0) :=
    opD_tr _ _ rfl (by simp) (fun i t d ht hd => by
      match i with
      | 0 =>
        obtain rfl : setT (memF [97]) = t := by simpa using ht
        obtain rfl : setD q = d := by simpa using hd
        exact setD_tr hq
      | 1 =>
        obtain rfl : Tm.mk 1 noB 0 0 [] = t := by simpa using ht
        obtain rfl : opD 1 none 0 0 0 0 = d := by simpa using hd
        exact leaf_tr W
      | i + 2 => simp at ht) r1
  have t8 : TR W (.mk 8 noB 2 2 [.mk 6 noB 0 0 [setT (memF [97]), .mk 1 noB 0 0 []]]) (opD 8 (some ⟨w.heap.size + 1 + 1, 0, none⟩) 1 1 2 2) :=
    opD_tr _ _ rfl (by simp) (fun i t d ht hd => by
      match i with
      | 0 =>
        obtain rfl : Tm.mk 6 noB 0 0 [setT (memF [97]), .mk 1 noB 0 0 []] = t := by simpa using ht
        obtain rfl : opD 6 (some ⟨w.heap.size, 0, none⟩) 2 2 0 0 = d := by simpa using hd
        exact t6
      | i + 1 => simp at ht) r3
  have S := shows_yes _ (opD 8 (some ⟨w.heap.size + 1 + 1, 0, none⟩) 1 1 2 2) [40, 97, 40, 41, 41, 123, 50, 125] W t8 (hp.below b13) exT1
  have e1 : strC [40, 97, 40, 41, 41, 123, 50, 125] = ⟨#[40, 97, 40, 41, 41, 123, 50, 125]⟩ := by kernel_rfl
  have e2 : (opD 8 (some ⟨w.heap.size + 1 + 1, 0, none⟩) 1 1 2 2).val = .agg #[.int .i64 8, .int .u64 0, .int .u64 0, .int .u64 0, .int .u64 0, .int .i64 2, .int .i64 2, .slice (some ⟨w.heap.size + 1 + 1, 0, none⟩) 1 1] := rfl
  rw [e1, e2] at S
  exact S
theorem set_shows {q : Nat → BitVec 64} {f : Nat → Bool} {l : List Nat} (w : World) (hq : IsK f q) (hp : Pow w) (h : showR (setT f) = (l, 0)) :
    Calls Tryd.prog 17 #[.agg #[.int .i64 2, .int .u64 (uv (q 0)), .int .u64 (uv (q 1)), .int .u64 (uv (q 2)), .int .u64 (uv (q 3)), .int .i64 0, .int .i64 0, .slice none 0 0], .string (strC l)] w (Tells w (.bool true)) :=
  shows_yes _ (setD q) l w (setD_tr hq) hp h
set_option maxRecDepth 100000 in
set_option maxHeartbeats 4000000 in
theorem speaks6_any (w : World) (hp : Pow w) : Calls Tryd.prog 7 #[] w (Tells w (.bool true)) := by
  have D1 := Lib.hid fun W => set16_any ⟨#[97]⟩ W (by decide)
  have D2 := Lib.hid fun W => set16_any ⟨#[97, 98, 99, 120]⟩ W (by decide)
  have D3 := Lib.hid fun W => set16_any ⟨#[124]⟩ W (by decide)
  have HP := Lib.hid hp
  clear hp
  go_enter Tryd.func7, Tryd.ntmps7
  go_wp2_with fail
  refine (D1.out _).mono ?_
  rintro e w1 ⟨q1, rfl, hq1, hb1⟩
  have Q1 := Lib.hid hq1
  have B1 := Lib.hid hb1
  have P1 := Lib.hid (HP.out.below hb1)
  clear hq1 hb1
  unfold TD.val setD
  go_wp2_with fail
  obtain ⟨S1, B2⟩ := cat_shows q1 w1 Q1.out P1.out
  have S1 := Lib.hid S1
  have P2 := Lib.hid (P1.out.below B2)
  have B2 := Lib.hid (B1.out.trans (B2.mono B1.out.size))
  clear D1 Q1 P1 B1
  refine S1.out.mono ?_
  rintro e w3 ⟨rfl, hb3⟩
  have B3 := Lib.hid (B2.out.trans (hb3.mono B2.out.size))
  have P3 := Lib.hid (P2.out.below hb3)
  clear S1 P2 B2 hb3
  go_wp2_with fail
  refine (D2.out _).mono ?_
  rintro e w4 ⟨q4, rfl, hq4, hb4⟩
  have B4 := Lib.hid (B3.out.trans (hb4.mono B3.out.size))
  have P4 := Lib.hid (P3.out.below hb4)
  have S4 := set_shows w4 hq4 P4.out exT2
  rw [show strC [91, 97, 45, 99, 120, 93] = ⟨#[91, 97, 45, 99, 120, 93]⟩ by kernel_rfl] at S4
  have S4 := Lib.hid S4
  clear hq4 hb4 D2 B3 P3
  unfold TD.val setD
  go_wp2_with fail
  refine S4.out.mono ?_
  rintro e w5 ⟨rfl, hb5⟩
  have B5 := Lib.hid (B4.out.trans (hb5.mono B4.out.size))
  have P5 := Lib.hid (P4.out.below hb5)
  clear S4 P4 B4 hb5
  go_wp2_with fail
  refine (D3.out _).mono ?_
  rintro e w6 ⟨q6, rfl, hq6, hb6⟩
  have B6 := Lib.hid (B5.out.trans (hb6.mono B5.out.size))
  have P6 := Lib.hid (P5.out.below hb6)
  have S6 := set_shows w6 hq6 P6.out exT3
  rw [show strC [92, 120, 55, 99] = ⟨#[92, 120, 55, 99]⟩ by kernel_rfl] at S6
  have S6 := Lib.hid S6
  clear hq6 hb6 D3 B5 P5
  unfold TD.val setD
  go_wp2_with fail
  refine S6.out.mono ?_
  rintro e w7 ⟨rfl, hb7⟩
  have B7 := Lib.hid (B6.out.trans (hb7.mono B6.out.size))
  have P7 := Lib.hid (P6.out.below hb7)
  have D4 := Lib.hid fun W => set16_any ⟨#[97]⟩ W (by decide)
  clear S6 P6 B6 hb7
  go_wp2_with fail
  refine (D4.out _).mono ?_
  rintro e w8 ⟨q8, rfl, hq8, hb8⟩
  have B8 := Lib.hid (B7.out.trans (hb8.mono B7.out.size))
  have P8 := Lib.hid (P7.out.below hb8)
  have S8 := chk_yes _ (setD q8) _ w8 (setD_tr hq8) P8.out exT4
  unfold TD.val setD at S8
  have S8 := Lib.hid S8
  clear hq8 hb8 D4 B7 P7
  unfold TD.val setD
  go_wp2_with fail
  refine S8.out.mono ?_
  rintro e w9 ⟨rfl, hb9⟩
  have B9 := Lib.hid (B8.out.trans (hb9.mono B8.out.size))
  clear S8 B8 hb9
  go_wp2
  go_ret
  exact ⟨rfl, B9.out⟩
end Go.Proofs.YtegehcdjnnajcaaDoor
