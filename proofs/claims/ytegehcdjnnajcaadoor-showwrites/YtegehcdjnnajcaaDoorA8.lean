/- The document's examples of layer 6. How great a term is: some number. The walk of ShowThere. -/
import Derived.Test.YtegehcdjnnajcaaDoorA7
import Derived.Test.YtegehcdjnnajcaaDoorU1
namespace Go.Proofs.YtegehcdjnnajcaaDoor
open Go.RowKit
theorem row_lit {w : World} {b : Nat} {C : Array Value} (hb : w.heap[b]? = some (.cells C 27 (0, 0))) (ds : List TD) (hC : C.toList = tcs ds) : RowAt w (some ⟨b, 0, none⟩) ds := fun h0 => by
  have hlt : b < w.heap.size := by
    rcases Nat.lt_or_ge b w.heap.size with h | h
    · exact h
    · rw [Array.getElem?_eq_none h] at hb; cases hb
  refine ⟨b, 0, rfl, hlt, fun i d hd j hj => ?_⟩
  rw [Nat.zero_add, cell_of_row w b _ C 27 (0, 0) hb, ← tcs_at ds i j d hd hj, ← hC, Array.getElem?_toList]
def opD (op : Int) (A : Option Addr) (n c : Nat) (lo hi : Int) : TD := ⟨op, fun _ => 0#64, lo, hi, A, n, c⟩
theorem opD_tr {w : World} {op lo hi : Int} {A : Option Addr} {c : Nat} (ks : List Tm) (ds : List TD) (hl : ds.length = ks.length) (hn : ks.length ≤ 9223372036854775807) (hk : ∀ (i : Nat) (t : Tm) (d : TD), ks[i]? = some t → ds[i]? = some d → TR w t d) (hr : RowAt w A ds) : TR w (.mk op noB lo hi ks) (opD op A ks.length c lo hi) :=
  .mk op noB lo hi ks (fun _ => 0#64) A c ds isK_zero hl hn hk hr
theorem leaf_tr (w : World) : TR w (.mk 1 noB 0 0 []) (opD 1 none 0 0 0 0) := opD_tr [] [] rfl (by simp) (fun i t d h => by simp at h) (fun h => by simp at h)
set_option maxRecDepth 100000 in
theorem cat_shows (q : Nat → BitVec 64) (w : World) (hq : IsK (memF [97]) q) (hp : Pow w) :
    Calls Tryd.prog 17 #[.agg #[.int .i64 8, .int .u64 0, .int .u64 0, .int .u64 0, .int .u64 0, .int .i64 2, .int .i64 2, .slice (some ⟨w.heap.size + 1 + 1, 0, none⟩) 1 1], .string ⟨#[40, 97, 40, 41, 41, 123, 50, 125]⟩] (((w.alloc (.cells #[.int .i64 2, .int .u64 (uv (q 0)), .int .u64 (uv (q 1)), .int .u64 (uv (q 2)), .int .u64 (uv (q 3)), .int .i64 0, .int .i64 0, .slice none 0 0, .int .i64 1, .int .u64 0, .int .u64 0, .int .u64 0, .int .u64 0, .int .i64 0, .int .i64 0, .slice none 0 0] 27)).alloc (.cells #[.int .i64 6, .int .u64 0, .int .u64 0, .int .u64 0, .int .u64 0, .int .i64 0, .int .i64 0, .slice (some ⟨w.heap.size, 0, none⟩) 2 2] 27)).alloc (.cells #[.int .i64 6, .int .u64 0, .int .u64 0, .int .u64 0, .int .u64 0, .int .i64 0, .int .i64 0, .slice (some ⟨w.heap.size, 0, none⟩) 2 2] 27)) (Tells (((w.alloc (.cells #[.int .i64 2, .int .u64 (uv (q 0)), .int .u64 (uv (q 1)), .int .u64 (uv (q 2)), .int .u64 (uv (q 3)), .int .i64 0, .int .i64 0, .slice none 0 0, .int .i64 1, .int .u64 0, .int .u64 0, .int .u64 0, .int .u64 0, .int .i64 0, .int .i64 0, .slice none 0 0] 27)).alloc (.cells #[.int .i64 6, .int .u64 0, .int .u64 0, .int .u64 0, .int .u64 0, .int .i64 0, .int .i64 0, .slice (some ⟨w.heap.size, 0, none⟩) 2 2] 27)).alloc (.cells #[.int .i64 6, .int .u64 0, .int .u64 0, .int .u64 0, .int .u64 0, .int .i64 0, .int .i64 0, .slice (some ⟨w.heap.size, 0, none⟩) 2 2] 27)) (.bool true)) ∧
    Below w.heap.size w (((w.alloc (.cells #[.int .i64 2, .int .u64 (uv (q 0)), .int .u64 (uv (q 1)), .int .u64 (uv (q 2)), .int .u64 (uv (q 3)), .int .i64 0, .int .i64 0, .slice none 0 0, .int .i64 1, .int .u64 0, .int .u64 0, .int .u64 0, .int .u64 0, .int .i64 0, .int .i64 0, .slice none 0 0] 27)).alloc (.cells #[.int .i64 6, .int .u64 0, .int .u64 0, .int .u64 0, .int .u64 0, .int .i64 0, .int .i64 0, .slice (some ⟨w.heap.size, 0, none⟩) 2 2] 27)).alloc (.cells #[.int .i64 6, .int .u64 0, .int .u64 0, .int .u64 0, .int .u64 0, .int .i64 0, .int .i64 0, .slice (some ⟨w.heap.size, 0, none⟩) 2 2] 27)) := by
  have b1 := below_new w (.cells #[.int .i64 2, .int .u64 (uv (q 0)), .int .u64 (uv (q 1)), .int .u64 (uv (q 2)), .int .u64 (uv (q 3)), .int .i64 0, .int .i64 0, .slice none 0 0, .int .i64 1, .int .u64 0, .int .u64 0, .int .u64 0, .int .u64 0, .int .i64 0, .int .i64 0, .slice none 0 0] 27)
  have b2 := below_new (w.alloc (.cells #[.int .i64 2, .int .u64 (uv (q 0)), .int .u64 (uv (q 1)), .int .u64 (uv (q 2)), .int .u64 (uv (q 3)), .int .i64 0, .int .i64 0, .slice none 0 0, .int .i64 1, .int .u64 0, .int .u64 0, .int .u64 0, .int .u64 0, .int .i64 0, .int .i64 0, .slice none 0 0] 27)) (.cells #[.int .i64 6, .int .u64 0, .int .u64 0, .int .u64 0, .int .u64 0, .int .i64 0, .int .i64 0, .slice (some ⟨w.heap.size, 0, none⟩) 2 2] 27)
  have b3 := below_new ((w.alloc (.cells #[.int .i64 2, .int .u64 (uv (q 0)), .int .u64 (uv (q 1)), .int .u64 (uv (q 2)), .int .u64 (uv (q 3)), .int .i64 0, .int .i64 0, .slice none 0 0, .int .i64 1, .int .u64 0, .int .u64 0, .int .u64 0, .int .u64 0, .int .i64 0, .int .i64 0, .slice none 0 0] 27)).alloc (.cells #[.int .i64 6, .int .u64 0, .int .u64 0, .int .u64 0, .int .u64 0, .int .i64 0, .int .i64 0, .slice (some ⟨w.heap.size, 0, none⟩) 2 2] 27)) (.cells #[.int .i64 6, .int .u64 0, .int .u64 0, .int .u64 0, .int .u64 0, .int .i64 0, .int .i64 0, .slice (some ⟨w.heap.size, 0, none⟩) 2 2] 27)
  have b12 := b1.trans (b2.mono b1.size)
  have b13 := b12.trans (b3.mono b12.size)
  refine ⟨?_, b13⟩
  have h1 : (((w.alloc (.cells #[.int .i64 2, .int .u64 (uv (q 0)), .int .u64 (uv (q 1)), .int .u64 (uv (q 2)), .int .u64 (uv (q 3)), .int .i64 0, .int .i64 0, .slice none 0 0, .int .i64 1, .int .u64 0, .int .u64 0, .int .u64 0, .int .u64 0, .int .i64 0, .int .i64 0, .slice none 0 0] 27)).alloc (.cells #[.int .i64 6, .int .u64 0, .int .u64 0, .int .u64 0, .int .u64 0, .int .i64 0, .int .i64 0, .slice (some ⟨w.heap.size, 0, none⟩) 2 2] 27)).alloc (.cells #[.int .i64 6, .int .u64 0, .int .u64 0, .int .u64 0, .int .u64 0, .int .i64 0, .int .i64 0, .slice (some ⟨w.heap.size, 0, none⟩) 2 2] 27)).heap[w.heap.size]? = some (.cells #[.int .i64 2, .int .u64 (uv (q 0)), .int .u64 (uv (q 1)), .int .u64 (uv (q 2)), .int .u64 (uv (q 3)), .int .i64 0, .int .i64 0, .slice none 0 0, .int .i64 1, .int .u64 0, .int .u64 0, .int .u64 0, .int .u64 0, .int .i64 0, .int .i64 0, .slice none 0 0] 27 (0, 0)) := by
    rw [b3.block _ (by simp; omega), b2.block _ (by simp)]
    exact heap_alloc_new w _
  have h3 : (((w.alloc (.cells #[.int .i64 2, .int .u64 (uv (q 0)), .int .u64 (uv (q 1)), .int .u64 (uv (q 2)), .int .u64 (uv (q 3)), .int .i64 0, .int .i64 0, .slice none 0 0, .int .i64 1, .int .u64 0, .int .u64 0, .int .u64 0, .int .u64 0, .int .i64 0, .int .i64 0, .slice none 0 0] 27)).alloc (.cells #[.int .i64 6, .int .u64 0, .int .u64 0, .int .u64 0, .int .u64 0, .int .i64 0, .int .i64 0, .slice (some ⟨w.heap.size, 0, none⟩) 2 2] 27)).alloc (.cells #[.int .i64 6, .int .u64 0, .int .u64 0, .int .u64 0, .int .u64 0, .int .i64 0, .int .i64 0, .slice (some ⟨w.heap.size, 0, none⟩) 2 2] 27)).heap[w.heap.size + 1 + 1]? = some (.cells #[.int .i64 6, .int .u64 0, .int .u64 0, .int .u64 0, .int .u64 0, .int .i64 0, .int .i64 0, .slice (some ⟨w.heap.size, 0, none⟩) 2 2] 27 (0, 0)) := by
    have := heap_alloc_new ((w.alloc (.cells #[.int .i64 2, .int .u64 (uv (q 0)), .int .u64 (uv (q 1)), .int .u64 (uv (q 2)), .int .u64 (uv (q 3)), .int .i64 0, .int .i64 0, .slice none 0 0, .int .i64 1, .int .u64 0, .int .u64 0, .int .u64 0, .int .u64 0, .int .i64 0, .int .i64 0, .slice none 0 0] 27)).alloc (.cells #[.int .i64 6, .int .u64 0, .int .u64 0, .int .u64 0, .int .u64 0, .int .i64 0, .int .i64 0, .slice (some ⟨w.heap.size, 0, none⟩) 2 2] 27)) (.cells #[.int .i64 6, .int .u64 0, .int .u64 0, .int .u64 0, .int .u64 0, .int .i64 0, .int .i64 0, .slice (some ⟨w.heap.size, 0, none⟩) 2 2] 27)
    rw [World.size_alloc, World.size_alloc] at this
    exact this
  have r1 := row_lit h1 [setD q, opD 1 none 0 0 0 0] rfl
  have r3 := row_lit h3 [opD 6 (some ⟨w.heap.size, 0, none⟩) 2 2 0 0] rfl
  generalize hW : (((w.alloc (.cells #[.int .i64 2, .int .u64 (uv (q 0)), .int .u64 (uv (q 1)), .int .u64 (uv (q 2)), .int .u64 (uv (q 3)), .int .i64 0, .int .i64 0, .slice none 0 0, .int .i64 1, .int .u64 0, .int .u64 0, .int .u64 0, .int .u64 0, .int .i64 0, .int .i64 0, .slice none 0 0] 27)).alloc (.cells #[.int .i64 6, .int .u64 0, .int .u64 0, .int .u64 0, .int .u64 0, .int .i64 0, .int .i64 0, .slice (some ⟨w.heap.size, 0, none⟩) 2 2] 27)).alloc (.cells #[.int .i64 6, .int .u64 0, .int .u64 0, .int .u64 0, .int .u64 0, .int .i64 0, .int .i64 0, .slice (some ⟨w.heap.size, 0, none⟩) 2 2] 27)) = W at *
  have t6 : TR W (.mk 6 noB 0 0 [setT (memF [97]), .mk 1 noB 0 0 []]) (opD 6 (some ⟨w.heap.size, 0, none⟩) 2 2 0 0) :=
    opD_tr _ _ rfl (by simp) (fun i t d ht hd => by
      match i with
      | 0 =>
        obtain rfl : setT (memF [97]) = t := by simpa using ht
        obtain rfl : setD q = d := by simpa using hd
        exact setD_tr hq
      | 1 =>
        obtain rfl : Tm.mk 1 noB 0 0 [] = t := by simpa using ht
        obtain rfl : opD 1 none 0 0 0 0 = d := by simpa using hd
        exact leaf_tr W
      | i + 2 => simp at ht) r1
  have t8 : TR W (.mk 8 noB 2 2 [.mk 6 noB 0 0 [setT (memF [97]), .mk 1 noB 0 0 []]]) (opD 8 (some ⟨w.heap.size + 1 + 1, 0, none⟩) 1 1 2 2) :=
    opD_tr _ _ rfl (by simp) (fun i t d ht hd => by
      match i with
      | 0 =>
        obtain rfl : Tm.mk 6 noB 0 0 [setT (memF [97]), .mk 1 noB 0 0 []] = t := by simpa using ht
        obtain rfl : opD 6 (some ⟨w.heap.size, 0, none⟩) 2 2 0 0 = d := by simpa using hd
        exact t6
      | i + 1 => simp at ht) r3
  have S := shows_yes _ (opD 8 (some ⟨w.heap.size + 1 + 1, 0, none⟩) 1 1 2 2) [40, 97, 40, 41, 41, 123, 50, 125] W t8 (hp.below b13) exT1
  have e1 : strC [40, 97, 40, 41, 41, 123, 50, 125] = ⟨#[40, 97, 40, 41, 41, 123, 50, 125]⟩ := by kernel_rfl
  have e2 : (opD 8 (some ⟨w.heap.size + 1 + 1, 0, none⟩) 1 1 2 2).val = .agg #[.int .i64 8, .int .u64 0, .int .u64 0, .int .u64 0, .int .u64 0, .int .i64 2, .int .i64 2, .slice (some ⟨w.heap.size + 1 + 1, 0, none⟩) 1 1] := rfl
  rw [e1, e2] at S
  exact S
theorem set_shows {q : Nat → BitVec 64} {f : Nat → Bool} {l : List Nat} (w : World) (hq : IsK f q) (hp : Pow w) (h : showR (setT f) = (l, 0)) :
    Calls Tryd.prog 17 #[.agg #[.int .i64 2, .int .u64 (uv (q 0)), .int .u64 (uv (q 1)), .int .u64 (uv (q 2)), .int .u64 (uv (q 3)), .int .i64 0, .int .i64 0, .slice none 0 0], .string (strC l)] w (Tells w (.bool true)) :=
  shows_yes _ (setD q) l w (setD_tr hq) hp h
set_option maxRecDepth 100000 in
set_option maxHeartbeats 4000000 in
theorem speaks6_any (w : World) (hp : Pow w) : Calls Tryd.prog 7 #[] w (Tells w (.bool true)) := by
  have D1 := Lib.hid fun W => set16_any ⟨#[97]⟩ W (by decide)
  have D2 := Lib.hid fun W => set16_any ⟨#[97, 98, 99, 120]⟩ W (by decide)
  have D3 := Lib.hid fun W => set16_any ⟨#[124]⟩ W (by decide)
  have HP := Lib.hid hp
  clear hp
  go_enter Tryd.func7, Tryd.ntmps7
  go_wp2_with fail
  refine (D1.out _).mono ?_
  rintro e w1 ⟨q1, rfl, hq1, hb1⟩
  have Q1 := Lib.hid hq1
  have B1 := Lib.hid hb1
  have P1 := Lib.hid (HP.out.below hb1)
  clear hq1 hb1
  unfold TD.val setD
  go_wp2_with fail
  obtain ⟨S1, B2⟩ := cat_shows q1 w1 Q1.out P1.out
  have S1 := Lib.hid S1
  have P2 := Lib.hid (P1.out.below B2)
  have B2 := Lib.hid (B1.out.trans (B2.mono B1.out.size))
  clear D1 Q1 P1 B1
  refine S1.out.mono ?_
  rintro e w3 ⟨rfl, hb3⟩
  have B3 := Lib.hid (B2.out.trans (hb3.mono B2.out.size))
  have P3 := Lib.hid (P2.out.below hb3)
  clear S1 P2 B2 hb3
  go_wp2_with fail
  refine (D2.out _).mono ?_
  rintro e w4 ⟨q4, rfl, hq4, hb4⟩
  have B4 := Lib.hid (B3.out.trans (hb4.mono B3.out.size))
  have P4 := Lib.hid (P3.out.below hb4)
  have S4 := set_shows w4 hq4 P4.out exT2
  rw [show strC [91, 97, 45, 99, 120, 93] = ⟨#[91, 97, 45, 99, 120, 93]⟩ by kernel_rfl] at S4
  have S4 := Lib.hid S4
  clear hq4 hb4 D2 B3 P3
  unfold TD.val setD
  go_wp2_with fail
  refine S4.out.mono ?_
  rintro e w5 ⟨rfl, hb5⟩
  have B5 := Lib.hid (B4.out.trans (hb5.mono B4.out.size))
  have P5 := Lib.hid (P4.out.below hb5)
  clear S4 P4 B4 hb5
  go_wp2_with fail
  refine (D3.out _).mono ?_
  rintro e w6 ⟨q6, rfl, hq6, hb6⟩
  have B6 := Lib.hid (B5.out.trans (hb6.mono B5.out.size))
  have P6 := Lib.hid (P5.out.below hb6)
  have S6 := set_shows w6 hq6 P6.out exT3
  rw [show strC [92, 120, 55, 99] = ⟨#[92, 120, 55, 99]⟩ by kernel_rfl] at S6
  have S6 := Lib.hid S6
  clear hq6 hb6 D3 B5 P5
  unfold TD.val setD
  go_wp2_with fail
  refine S6.out.mono ?_
  rintro e w7 ⟨rfl, hb7⟩
  have B7 := Lib.hid (B6.out.trans (hb7.mono B6.out.size))
  have P7 := Lib.hid (P6.out.below hb7)
  have D4 := Lib.hid fun W => set16_any ⟨#[97]⟩ W (by decide)
  clear S6 P6 B6 hb7
  go_wp2_with fail
  refine (D4.out _).mono ?_
  rintro e w8 ⟨q8, rfl, hq8, hb8⟩
  have B8 := Lib.hid (B7.out.trans (hb8.mono B7.out.size))
  have P8 := Lib.hid (P7.out.below hb8)
  have S8 := chk_yes _ (setD q8) _ w8 (setD_tr hq8) P8.out exT4
  unfold TD.val setD at S8
  have S8 := Lib.hid S8
  clear hq8 hb8 D4 B7 P7
  unfold TD.val setD
  go_wp2_with fail
  refine S8.out.mono ?_
  rintro e w9 ⟨rfl, hb9⟩
  have B9 := Lib.hid (B8.out.trans (hb9.mono B8.out.size))
  clear S8 B8 hb9
  go_wp2
  go_ret
  exact ⟨rfl, B9.out⟩
end Go.Proofs.YtegehcdjnnajcaaDoor
namespace Go.Proofs.YtegehcdjnnajcaaDoor
open Go.RowKit
set_option maxRecDepth 100000 in
set_option maxHeartbeats 2000000 in
theorem size_any : ∀ (t : Tm) (d : TD) (dp : Nat) (w : World), TR w t d → dp ≤ 61 → Calls Tryd.prog 18 #[d.val, .int .i64 (dp : Nat)] w (fun e w' => ∃ n : Nat, e = .returned (.int .i64 (n : Nat)) ∧ n ≤ 1000000 + 500 * (61 - dp) ∧ Below w.heap.size w w') := by
  intro t
  induction t using Tm.ind with
  | h op f lo hi ks ih =>
  intro d dp w ht hdp
  cases ht with
  | mk _ _ _ _ _ q A c ds hq hl hn hk hr =>
  have T1 : Hid (TB (w.alloc (.cells #[.int .i64 op, .int .u64 (uv (q 0)), .int .u64 (uv (q 1)), .int .u64 (uv (q 2)), .int .u64 (uv (q 3)), .int .i64 lo, .int .i64 hi, .slice A ks.length c] 27)) w.heap.size ⟨op, q, lo, hi, A, ks.length, c⟩) := TB.new w ⟨op, q, lo, hi, A, ks.length, c⟩
  have B1 : Hid (Below w.heap.size w (w.alloc (.cells #[.int .i64 op, .int .u64 (uv (q 0)), .int .u64 (uv (q 1)), .int .u64 (uv (q 2)), .int .u64 (uv (q 3)), .int .i64 lo, .int .i64 hi, .slice A ks.length c] 27))) := below_new w _
  obtain ⟨⟨x0, x1, x2, x3, x4, x5, x6, x7⟩, _⟩ := T1.out.all
  unfold TD.val
  by_cases h60 : 60 < dp
  · have q1 : (60 : Int) < (dp : Int) := by omega
    clear ih hk hr
    go_enter Tryd.func18, Tryd.ntmps18
    go_wp2
    go_ret
    exact ⟨1000000, rfl, by omega, B1.out⟩
  have q1 : ¬ (60 : Int) < (dp : Int) := by omega
  have IH := Lib.hid ih; have HK := Lib.hid hk; have HR := Lib.hid hr; have HL := Lib.hid hl
  obtain ⟨n, hnn⟩ : ∃ n, ks.length = n := ⟨_, rfl⟩
  rw [hnn] at T1 B1 x0 x1 x2 x3 x4 x5 x6 x7 hn
  have HN := Lib.hid hnn
  simp only [hnn]
  clear ih hk hr hl hnn
  go_enter Tryd.func18, Tryd.ntmps18
  go_wp2_with fail
  go_loopw [5, 6] (fun u v wr => ∃ m i : Nat, i ≤ n ∧ m ≤ 1000000 + 500 * (61 - dp) ∧ u = .int .i64 (m : Nat) ∧ v = .int .i64 (i : Nat) ∧ Hid (TB wr w.heap.size ⟨op, q, lo, hi, A, n, c⟩ ∧ Below w.heap.size w wr)) (fun _ v _ => n - (intOf v).toNat)
  case atStart => exact ⟨1, 0, Nat.zero_le _, by omega, rfl, rfl, ⟨T1.out, B1.out⟩⟩
  case round =>
    obtain ⟨m, i, hi1, hm, rfl, rfl, hW⟩ := hrel
    obtain ⟨⟨x0, x1, x2, x3, x4, x5, x6, x7⟩, _⟩ := hW.out.1.all
    clear T1 B1
    by_cases hlt : i < n
    · have qi : (i : Int) < (n : Int) := by omega
      by_cases hm5 : m ≤ 500
      · have qm : (m : Int) ≤ 500 := by omega
        have hi2 : i < ks.length := by have := HN.out; omega
        have hi4 : i < ds.length := by have h1 := HL.out; omega
        obtain ⟨kb1, off1, rfl, hb1, hc1⟩ := HR.out (by omega)
        obtain ⟨a0, a1, a2, a3, a4, a5, a6, a7⟩ := kid_cells hW.out.2 hb1 hc1 (List.getElem?_eq_getElem hi4)
        have k1 := (HK.out i _ _ (List.getElem?_eq_getElem hi2) (List.getElem?_eq_getElem hi4)).keeps hW.out.2
        have D1 := Lib.hid (IH.out _ (List.getElem_mem hi2) _ (dp + 1) wr k1 (by omega))
        have q7 : ((dp + 1 : Nat) : Int) = (dp : Int) + 1 := by omega
        rw [q7] at D1
        generalize ds[i] = dt at *
        have q5 : IntKind.i64.wrap ((dp : Int) + 1) = (dp : Int) + 1 := by rw [IntWalk.i64_in _ (by omega)]
        have HM : Hid (m ≤ 500) := hm5
        clear hc1 k1 hi2 hi4 hb1 q7 hm hm5
        unfold TD.val at D1
        go_wp2_with fail
        refine D1.out.mono ?_
        rintro e w5 ⟨n5, rfl, hn5, hb5⟩
        have W5 : Hid (TB w5 w.heap.size ⟨op, q, lo, hi, some ⟨kb1, off1, none⟩, n, c⟩ ∧ Below w.heap.size w w5) := ⟨hW.out.1.below hb5, hW.out.2.trans (hb5.mono hW.out.2.size)⟩
        have hsum : m + n5 ≤ 1000000 + 500 * (61 - dp) := by have := HM.out; omega
        have q6 : IntKind.i64.wrap ((i : Int) + 1) = ((i + 1 : Nat) : Int) := by rw [IntWalk.i64_in _ (by omega)]; omega
        have q8 : IntKind.i64.wrap ((m : Int) + (n5 : Int)) = ((m + n5 : Nat) : Int) := by rw [IntWalk.i64_in _ (by omega)]; omega
        clear D1 hW hb5 a0 a1 a2 a3 a4 a5 a6 a7 x0 x1 x2 x3 x4 x5 x6 x7
        go_wp2_with fail
        go_roundw
        case rel => exact ⟨m + n5, i + 1, by omega, hsum, by simp, by simp, W5⟩
        case measure => simp [intOf]; omega
      · have qm : ¬ (m : Int) ≤ 500 := by omega
        go_wp2
        go_ret
        exact ⟨m, rfl, hm, hW.out.2⟩
    · have qi : ¬ (i : Int) < (n : Int) := by omega
      go_wp2
      go_ret
      exact ⟨m, rfl, hm, hW.out.2⟩
/-- whether a term is great is told, somehow -/
theorem great_any (t : Tm) (d : TD) (w : World) (ht : TR w t d) : Calls Tryd.prog 8 #[d.val] w (fun e w' => ∃ b, Tells w (.bool b) e w') := by
  have nb := below_new w (.cells d.cells 27)
  have D1 := Lib.hid (size_any t d 0 _ (ht.keeps nb) (by omega))
  have B1 := Lib.hid nb
  obtain ⟨⟨x0, x1, x2, x3, x4, x5, x6, x7⟩, _⟩ := (TB.new w d).all
  clear nb
  unfold TD.val TD.cells at *
  go_enter Tryd.func8, Tryd.ntmps8
  go_wp2_with fail
  refine D1.out.mono ?_
  rintro e w2 ⟨n, rfl, _, hb2⟩
  have B2 := Lib.hid (B1.out.trans (hb2.mono B1.out.size))
  clear D1 B1 hb2 x0 x1 x2 x3 x4 x5 x6 x7
  go_wp2
  go_ret
  exact ⟨_, rfl, B2.out⟩
end Go.Proofs.YtegehcdjnnajcaaDoor
namespace Go.Proofs.YtegehcdjnnajcaaDoor
open Go.RowKit
theorem show_ways (t : Tm) : (∃ c : Int, (c = 1 ∨ c = 2 ∨ c = 52) ∧ showR t = ([], c)) ∨ (rightT t = true ∧ (formT t).length ≤ 200 ∧ depT t ≤ 30 ∧ showR t = (formT t, 0) ∧ ∃ t', parseF (formT t) = (t', 0, 0) ∧ sameT t' t = true) := by
  unfold showR
  by_cases hr : rightT t = true
  · by_cases h1 : 200 < (formT t).length
    · exact .inl ⟨1, .inl rfl, by rw [if_pos hr, if_pos h1]⟩
    · by_cases h2 : 30 < depT t
      · exact .inl ⟨52, .inr (.inr rfl), by rw [if_pos hr, if_neg h1, if_pos h2]⟩
      · right
        refine ⟨hr, by omega, by omega, by rw [if_pos hr, if_neg h1, if_neg h2], ?_⟩
        exact form_back t hr (by omega) (by omega) (by have := dep_le t; omega)
  · exact .inl ⟨2, .inr (.inl rfl), by rw [if_neg hr]⟩
theorem step_ck {w W W' : World} {b : Nat} {t : Tm} {d : TD} (h : Hid (Ck w W b t d)) (hb : Below W.heap.size W W') : Hid (Ck w W' b t d) := Ck.to h.out hb
theorem Ck.new {w W : World} {t : Tm} {d : TD} (hb : Below w.heap.size w W) (ht : TR W t d) (hp : Pow W) : Ck w (W.alloc (.cells d.cells 27)) W.heap.size t d :=
  ⟨hb.trans ((below_new W _).mono hb.size), ht.keeps (below_new W _), TB.new W d, hp.below (below_new W _)⟩
set_option maxRecDepth 100000 in
set_option maxHeartbeats 4000000 in
theorem there_walk (t : Tm) (d : TD) (w : World) (ht : TR w t d) (hp : Pow w) : Calls Tryd.prog 4 #[d.val] w (Tells w (.bool true)) := by
  have C1 := Lib.hid (Ck.new (Below.refl _ _) ht hp)
  have D1 := Lib.hid (speaks6_any _ C1.out.pow)
  unfold TD.cells at C1 D1
  unfold TD.val
  clear ht hp
  go_enter Tryd.func4, Tryd.ntmps4
  go_wp2_with fail
  refine D1.out.mono ?_
  rintro e w2 ⟨rfl, hb2⟩
  have C2 := step_ck C1 hb2
  have D2 := great_any t d w2 C2.out.tr
  unfold TD.val at D2
  have D2 := Lib.hid D2
  obtain ⟨⟨x0, x1, x2, x3, x4, x5, x6, x7⟩, -⟩ := C2.out.tb.all
  clear C1 D1 hb2
  go_wp2_with fail
  refine D2.out.mono ?_
  rintro e w3 ⟨b3, rfl, hb3⟩
  have C3 := step_ck C2 hb3
  clear C2 D2 hb3 x0 x1 x2 x3 x4 x5 x6 x7
  obtain ⟨⟨x0, x1, x2, x3, x4, x5, x6, x7⟩, -⟩ := C3.out.tb.all
  cases b3 with
  | true =>
    go_wp2
    go_ret
    exact ⟨rfl, C3.out.bel⟩
  | false =>
  have D3 := show_any t d w3 C3.out.tr C3.out.pow
  rcases show_ways t with ⟨c, hc, hs⟩ | ⟨hr, hl, hdp, hs, t', hpf, hsm⟩
  · have D4 : Hid (∀ W, Hid (Ck w W w.heap.size t d) → Calls Tryd.prog 12 #[d.val] W (Tells W (.int .i64 c))) := fun W h => by
      have := check_any t d W h.out.tr h.out.pow
      rw [hs] at this; exact this
    rw [hs] at D3
    unfold TD.val at D3 D4
    have D3 := Lib.hid D3
    clear hs
    rcases hc with rfl | rfl | rfl
    all_goals
      go_wp2_with fail
      refine D3.out.mono ?_
      rintro e w4 ⟨A, c4, rfl, hB4, hb4⟩
      have C4 := step_ck C3 hb4
      clear C3 D3 hB4 hb4 x0 x1 x2 x3 x4 x5 x6 x7
      obtain ⟨⟨x0, x1, x2, x3, x4, x5, x6, x7⟩, -⟩ := C4.out.tb.all
      go_wp2_with fail
      refine (D4.out _ C4).mono ?_
      rintro e w5 ⟨rfl, hb5⟩
      have C5 := step_ck C4 hb5
      clear C4 D4 hb5 x0 x1 x2 x3 x4 x5 x6 x7
      go_wp2
      go_ret
      exact ⟨rfl, C5.out.bel⟩
  · rw [hs] at D3
    unfold TD.val at D3
    have D3 := Lib.hid D3
    have S := Lib.hid hsm
    have PF := Lib.hid hpf
    generalize formT t = l at *
    clear hr hl hdp hs hsm hpf
    go_wp2_with fail
    refine D3.out.mono ?_
    rintro e w4 ⟨A, c4, rfl, hB4, hb4⟩
    have C4 := step_ck C3 hb4
    have D5 := parse_any A c4 l w4 hB4
    rw [PF.out] at D5
    have D5 := Lib.hid D5
    clear C3 D3 hB4 hb4 x0 x1 x2 x3 x4 x5 x6 x7
    go_wp2_with fail
    refine D5.out.mono ?_
    rintro e w5 ⟨d5, rfl, hv5, hb5⟩
    have C5 := step_ck C4 hb5
    have K5 := Lib.hid (Ck.new C5.out.bel hv5.tr C5.out.pow)
    have C5 := step_ck C5 (below_new w5 (.cells d5.cells 27))
    have D6 := same_any t' t d5 d _ K5.out.tr C5.out.tr
    rw [S.out] at D6
    obtain ⟨⟨x0, x1, x2, x3, x4, x5, x6, x7⟩, -⟩ := C5.out.tb.all
    obtain ⟨⟨y0, y1, y2, y3, y4, y5, y6, y7⟩, -⟩ := K5.out.tb.all
    have lt5 := C5.out.tb.lt
    have lt6 := K5.out.tb.lt
    unfold TD.val TD.cells at D6
    unfold TD.cells at C5 K5 x0 x1 x2 x3 x4 x5 x6 x7 y0 y1 y2 y3 y4 y5 y6 y7 lt5 lt6
    have D6 := Lib.hid D6
    clear C4 D5 hb5 hv5
    unfold TD.val
    go_wp2_with fail
    refine D6.out.mono ?_
    rintro e w6 ⟨rfl, hb6⟩
    have C6 := step_ck C5 hb6
    clear C5 K5 D6 hb6 x0 x1 x2 x3 x4 x5 x6 x7 y0 y1 y2 y3 y4 y5 y6 y7
    go_wp2
    go_ret
    exact ⟨rfl, C6.out.bel⟩
end Go.Proofs.YtegehcdjnnajcaaDoor
