/- speaks of the laws of fold: the document's examples. -/
import Derived.Test.YtkljagffccommaaG43
import Derived.Test.YtkljagffccommaaG39
import Derived.Test.YtkljagffccommaaG47
import Derived.KernelRfl
namespace Go.Proofs.Ytkljagffccommaa
open Go.RowKit

def twoB (k : Tm) : Bool := !(decide (opOf (sPr k).s = 6) || decide (opOf (sPr k).s = 7)) || decide (2 ≤ (kidsOf (sPr k).s).length)
mutual
def flB (Q : Nat) : Tm → Bool
  | .mk _ _ _ _ ks => decide (ks.length ≤ 500) && (decide ((ks.flatMap (gO 6)).length ≤ 500000) && (decide ((ks.flatMap (gO 7)).length ≤ Q) && (ks.all twoB && flL Q ks)))
def flL (Q : Nat) : List Tm → Bool
  | [] => true
  | k :: r => flB Q k && flL Q r
end
theorem flL_all (Q : Nat) : ∀ ks, flL Q ks = true → ∀ k ∈ ks, flB Q k = true
  | [], _, k, hk => by cases hk
  | a :: r, h, k, hk => by
    rw [flL, Bool.and_eq_true] at h
    rcases List.mem_cons.1 hk with e | hk
    · rw [e]; exact h.1
    · exact flL_all Q r h.2 k hk
theorem fl_of (Q : Nat) (t : Tm) : flB Q t = true → Fl Q t := by
  induction t using Tm.ind with
  | h op f lo hi ks ih =>
    intro h
    rw [flB] at h
    simp only [Bool.and_eq_true, decide_eq_true_eq, List.all_eq_true] at h
    obtain ⟨h1, h2, h3, h4, h5⟩ := h
    refine .mk op f lo hi ks h1 h2 h3 (fun k hk o ho e => ?_) (fun k hk => ih k hk (flL_all Q ks h5 k hk))
    have := h4 k hk
    unfold twoB at this
    rcases ho with rfl | rfl
    · rw [e] at this; simpa using this
    · rw [e] at this; simpa using this

set_option maxRecDepth 100000 in
set_option maxHeartbeats 2000000 in
theorem simple30_any (s : ByteArray) (r : List Nat) (t : Tm) (w : World) (h : parseF (btl s) = (t, 0, 0)) (hf : flB 20 t = true) (hr : rightT (sPr t).s = true) (hz : decide (szT (sPr t).s ≤ 500) = true) (hform : formT (sPr t).s = r) (hlr : r.length ≤ 100) :
    Calls Try.prog 30 #[.string s] w (Tells w (.string (strC r))) := by
  obtain ⟨c, W1, hcv, hB, hb⟩ := conv_str s w
  have D1 := parse_any (some ⟨w.heap.size, 0, none⟩) c (btl s) W1 hB
  rw [h] at D1
  have D1 := Lib.hid D1
  have B1 := Lib.hid hb
  have DS := Lib.hid fun (d : TD) (W : World) (ht : TR W t d) => simple_any 20 (by omega) row_any (choice_any 20 (by omega) fun n hn => sorts_small n hn) t d W ht (fl_of 20 t hf)
  have DF := Lib.hid (formR_any _ hr (of_decide_eq_true hz))
  have HF := Lib.hid hform; have HR := Lib.hid hlr
  clear hb hB h hf hr hz hform hlr
  go_enter Try.func30, Try.ntmps30
  go_wp2_with fail
  refine D1.out.mono ?_
  rintro e w2 ⟨d, rfl, hv, hb2⟩
  have V2 := Lib.hid hv.tr; have B2 := Lib.hid (B1.out.trans (hb2.mono B1.out.size))
  clear hv hb2 D1 B1
  have bb := below_new w2 (.cells d.cells 29)
  have V3 := Lib.hid (V2.out.keeps bb)
  have B3 := Lib.hid (B2.out.trans (bb.mono B2.out.size))
  have T3 : Hid (TB (w2.alloc (.cells d.cells 29)) w2.heap.size d) := TB.new w2 d
  have D2 := Lib.hid (DS.out d _ V3.out)
  obtain ⟨⟨x0, x1, x2, x3, x4, x5, x6, x7⟩, _⟩ := T3.out.all
  clear bb V2 B2 DS
  unfold TD.val TD.cells at *
  go_wp2_with fail
  refine D2.out.mono ?_
  rintro e w3 ⟨d3, rfl, hv3, hb3⟩
  have B4 := Lib.hid (B3.out.trans (hb3.mono B3.out.size))
  have D3 := Lib.hid (DF.out d3 w3 hv3.tr)
  clear D2 V3 B3 T3 hb3 hv3 DF x0 x1 x2 x3 x4 x5 x6 x7
  unfold TD.val at *
  go_wp2_with fail
  refine D3.out.mono ?_
  rintro e w4 ⟨l, rfl, hl, -, -, hb4⟩
  have B5 := Lib.hid (B4.out.trans (hb4.mono B4.out.size))
  have HL : Hid (l = r) := by
    rcases hl with e | ⟨_, e⟩
    · exact e.trans HF.out
    · rw [HF.out] at e; have := HR.out; omega
  clear D3 B4 hb4 hl
  go_wp2
  go_ret
  exact ⟨by rw [HL.out]; rfl, B5.out⟩

def fx1 : Tm := (parseF (btl ⟨#[40, 97, 124, 98, 124, 41, 40, 41]⟩)).1
def fx2 : Tm := (parseF (btl ⟨#[97, 91, 98, 45, 97, 93, 124, 99]⟩)).1
def fx3 : Tm := (parseF (btl ⟨#[40, 97, 42, 41, 43]⟩)).1
theorem px1 : parseF (btl ⟨#[40, 97, 124, 98, 124, 41, 40, 41]⟩) = (fx1, 0, 0) := by kernel_rfl
theorem px2 : parseF (btl ⟨#[97, 91, 98, 45, 97, 93, 124, 99]⟩) = (fx2, 0, 0) := by kernel_rfl
theorem px3 : parseF (btl ⟨#[40, 97, 42, 41, 43]⟩) = (fx3, 0, 0) := by kernel_rfl
theorem fl1 : flB 20 fx1 = true := by kernel_rfl
theorem fl2 : flB 20 fx2 = true := by kernel_rfl
theorem fl3 : flB 20 fx3 = true := by kernel_rfl
theorem rt1 : rightT (sPr fx1).s = true := by kernel_rfl
theorem rt2 : rightT (sPr fx2).s = true := by kernel_rfl
theorem rt3 : rightT (sPr fx3).s = true := by kernel_rfl
theorem sz1 : decide (szT (sPr fx1).s ≤ 500) = true := by kernel_rfl
theorem sz2 : decide (szT (sPr fx2).s ≤ 500) = true := by kernel_rfl
theorem sz3 : decide (szT (sPr fx3).s ≤ 500) = true := by kernel_rfl
theorem fo1 : formT (sPr fx1).s = [91, 97, 98, 93, 124] := by kernel_rfl
theorem fo2 : formT (sPr fx2).s = [99] := by kernel_rfl
theorem fo3 : formT (sPr fx3).s = [97, 42] := by kernel_rfl
theorem sx1 : strC [91, 97, 98, 93, 124] = ⟨#[91, 97, 98, 93, 124]⟩ := by kernel_rfl
theorem sx2 : strC [99] = ⟨#[99]⟩ := by kernel_rfl
theorem sx3 : strC [97, 42] = ⟨#[97, 42]⟩ := by kernel_rfl
set_option maxRecDepth 100000 in
theorem speaks8_any (w : World) : Calls Try.prog 15 #[] w (Tells w (.bool true)) := by
  have R1 := Lib.hid (simple30_any ⟨#[40, 97, 124, 98, 124, 41, 40, 41]⟩ _ fx1 w px1 fl1 rt1 sz1 fo1 (by simp))
  have R2 := Lib.hid fun W => simple30_any ⟨#[97, 91, 98, 45, 97, 93, 124, 99]⟩ _ fx2 W px2 fl2 rt2 sz2 fo2 (by simp)
  have R3 := Lib.hid fun W => simple30_any ⟨#[40, 97, 42, 41, 43]⟩ _ fx3 W px3 fl3 rt3 sz3 fo3 (by simp)
  rw [sx1] at R1
  rw [sx2] at R2
  rw [sx3] at R3
  go_enter Try.func15, Try.ntmps15
  go_wp2_with fail
  refine R1.out.mono ?_
  rintro e w2 ⟨rfl, hb2⟩
  have B2 := Lib.hid hb2
  clear hb2 R1
  go_wp2_with fail
  refine (R2.out _).mono ?_
  rintro e w3 ⟨rfl, hb3⟩
  have B3 := Lib.hid (B2.out.trans (hb3.mono B2.out.size))
  clear hb3 R2 B2
  go_wp2_with fail
  refine (R3.out _).mono ?_
  rintro e w4 ⟨rfl, hb4⟩
  have B4 := Lib.hid (B3.out.trans (hb4.mono B3.out.size))
  clear hb4 R3 B3
  go_wp2
  go_ret
  exact ⟨rfl, B4.out⟩
end Go.Proofs.Ytkljagffccommaa
