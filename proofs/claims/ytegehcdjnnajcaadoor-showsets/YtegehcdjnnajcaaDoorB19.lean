/- What the laws' examples are made of: sets of letters, forms that are told. -/
import Derived.Test.YtegehcdjnnajcaaDoorB18
import Derived.Test.YtegehcdjnnajcaaDoorF4
import Derived.Laws.BytesArg
namespace Go.Proofs.YtegehcdjnnajcaaDoor
open Go.RowKit
def memF (l : List Nat) (i : Nat) : Bool := l.contains i
theorem ofF_mem (l : List Nat) : ofF l l.length = memF l := by
  funext i
  unfold ofF memF
  rw [Bool.eq_iff_iff, decide_eq_true_iff, List.contains_iff_mem]
  constructor
  · rintro ⟨j, hj, e⟩
    have e2 : bn l j = l[j] := by unfold bn; rw [List.getD, List.getElem?_eq_getElem hj]; rfl
    rw [← e, e2]; exact List.getElem_mem hj
  · intro h
    obtain ⟨j, hj, e⟩ := List.getElem_of_mem h
    exact ⟨j, hj, by unfold bn; rw [List.getD, List.getElem?_eq_getElem hj]; exact e⟩
theorem strN_eq (l : List Nat) : strOfNums (l.map fun (i : Nat) => (i : Int)) = strC l := by
  unfold strOfNums strC
  rw [List.map_map]
  rfl
theorem conv_bts {w : World} {A : Option Addr} {l : List Nat} (c : Nat) (h : Bts w A l) : (convert 31 9 (.slice A l.length c)).run Tryd.prog w = .ok (.string (strC l)) w := by
  rw [← strN_eq]
  rcases Nat.eq_zero_or_pos l.length with h0 | h0
  · obtain rfl : l = [] := List.eq_nil_of_length_eq_zero h0
    show (convert 31 9 (.slice A 0 c)).run Tryd.prog w = _
    rw [run_convert_bytes_string w 31 9 5 A 0 c Tryd.underlying31 Tryd.underlying5 Tryd.underlying9]
    cases A <;> simp [Conv.bytesToString, strOfNums] <;> rfl
  · obtain ⟨b, off, rfl, _, hc⟩ := h.2 h0
    exact run_convert_bytes_arg w 31 5 Tryd.underlying31 Tryd.underlying5 b off l.length c (l.map fun (i : Nat) => (i : Int)) (by simp) (fun i hi => by
      rw [hc i hi]; simp [bn, List.getD, List.getElem?_eq_getElem hi]) 9 Tryd.underlying9
def setD (q : Nat → BitVec 64) : TD := ⟨2, q, 0, 0, none, 0, 0⟩
theorem setD_tr {w : World} {q : Nat → BitVec 64} {f : Nat → Bool} (h : IsK f q) : TR w (setT f) (setD q) :=
  .mk 2 f 0 0 [] q none 0 [] h rfl (by simp) (fun i t d ht => by simp at ht) (fun h0 => by simp at h0)
def GivesT (w : World) (f : Nat → Bool) (e : Ending) (w' : World) : Prop := ∃ q, e = .returned (setD q).val ∧ IsK f q ∧ Below w.heap.size w w'
theorem res16 (W : World) (k : Nat) (d : TD) (T : Array Value) (h : TB W k d) (hT : T[2]? = some (.pointer (some ⟨k, 0, none⟩))) : (results Tryd.f16 T).run Tryd.prog W = .ok d.val W := by
  obtain ⟨⟨x0, x1, x2, x3, x4, x5, x6, x7⟩, _⟩ := h.all
  simp [results, Tryd.results16, go_sem, TD.val, hT, x0, x1, x2, x3, x4, x5, x6, x7]
set_option maxRecDepth 100000 in
set_option maxHeartbeats 4000000 in
theorem set16_any (s : ByteArray) (w : World) (hs : s.size ≤ 1000000) : Calls Tryd.prog 16 #[.string s] w (GivesT w (memF (btl s))) := by
  have T1 : Hid (TB (w.alloc (.cells #[.int .i64 0, .int .u64 0, .int .u64 0, .int .u64 0, .int .u64 0, .int .i64 0, .int .i64 0, .slice none 0 0] 27)) w.heap.size zT) := TB.new w zT
  obtain ⟨c, W2, hcv, hB, hb⟩ := conv_str s (w.alloc (.cells #[.int .i64 0, .int .u64 0, .int .u64 0, .int .u64 0, .int .u64 0, .int .i64 0, .int .i64 0, .slice none 0 0] 27))
  rw [World.size_alloc] at hcv hB
  have T2 := Lib.hid (T1.out.below hb)
  have hl : (btl s).length ≤ 9223372036854775806 := by rw [len_btl]; omega
  have D1 := of2_any _ c (btl s) W2 hB hl
  rw [ofF_mem] at D1
  have D1 := Lib.hid D1
  have B2 := Lib.hid ((below_new w (.cells #[.int .i64 0, .int .u64 0, .int .u64 0, .int .u64 0, .int .u64 0, .int .i64 0, .int .i64 0, .slice none 0 0] 27)).trans (hb.mono (by simp)))
  clear hB hb T1
  obtain ⟨n, hn⟩ : ∃ n, (btl s).length = n := ⟨_, rfl⟩
  rw [hn] at hcv D1
  generalize memF (btl s) = f at *
  clear hn hl
  go_enter Tryd.func16, Tryd.ntmps16
  go_wp2_with fail
  refine D1.out.mono ?_
  rintro e w3 ⟨q, rfl, hq, hb3⟩
  have T3 := Lib.hid (T2.out.below hb3)
  have B3 := Lib.hid (B2.out.trans (hb3.mono B2.out.size))
  have Q := Lib.hid hq
  have hall := T3.out.all
  obtain ⟨⟨x0, x1, x2, x3, x4, x5, x6, x7⟩, hfr⟩ := hall
  have lt3 := T3.out.lt
  unfold cw
  clear D1 hq hb3 T2 B2
  go_wp2
  have T4 := T3.out.to8 (setD q)
  have hk : w.heap.size ≤ w.heap.size := Nat.le_refl _
  refine bodyPost_ret (v := (setD q).val) (res16 _ w.heap.size (setD q) _ T4 rfl) rfl ⟨q, rfl, Q.out, ?_⟩
  exact (((((((B3.out.setCell hk _).setCell hk _).setCell hk _).setCell hk _).setCell hk _).setCell hk _).setCell hk _).setCell hk _
set_option maxRecDepth 100000 in
set_option maxHeartbeats 2000000 in
theorem shows_yes (t : Tm) (d : TD) (l : List Nat) (w : World) (ht : TR w t d) (hp : Pow w) (hs : showR t = (l, 0)) : Calls Tryd.prog 17 #[d.val, .string (strC l)] w (Tells w (.bool true)) := by
  have nb := below_new w (.cells d.cells 27)
  have C1 : Hid (Ck w (w.alloc (.cells d.cells 27)) w.heap.size t d) := ⟨nb, ht.keeps nb, TB.new w d, hp.below nb⟩
  have D1 := show_any t d _ C1.out.tr C1.out.pow
  rw [hs] at D1
  unfold TD.val TD.cells at D1
  have D1 := Lib.hid D1
  unfold TD.cells at C1
  unfold TD.val
  clear ht hp nb hs
  go_enter Tryd.func17, Tryd.ntmps17
  go_wp2_with fail
  refine D1.out.mono ?_
  rintro e w2 ⟨A, c, rfl, hB, hb2⟩
  have B2 := Lib.hid (C1.out.bel.trans (hb2.mono C1.out.bel.size))
  have cv := conv_bts c hB
  generalize strC l = s at *
  clear D1 hB hb2 C1
  go_wp2
  go_ret
  exact ⟨rfl, B2.out⟩
theorem chk_yes (t : Tm) (d : TD) (l : List Nat) (w : World) (ht : TR w t d) (hp : Pow w) (hs : showR t = (l, 0)) : Calls Tryd.prog 12 #[d.val] w (Tells w (.int .i64 0)) := by
  have := check_any t d w ht hp
  rw [hs] at this; exact this
theorem exT1 : showR (.mk 8 noB 2 2 [.mk 6 noB 0 0 [setT (memF [97]), .mk 1 noB 0 0 []]]) = ([40, 97, 40, 41, 41, 123, 50, 125], 0) := by kernel_rfl
theorem exT2 : showR (setT (memF [97, 98, 99, 120])) = ([91, 97, 45, 99, 120, 93], 0) := by kernel_rfl
theorem exT3 : showR (setT (memF [124])) = ([92, 120, 55, 99], 0) := by kernel_rfl
theorem exT4 : showR (setT (memF [97])) = ([97], 0) := by kernel_rfl
end Go.Proofs.YtegehcdjnnajcaaDoor
