/- New counters, of each kind. -/
import Derived.Test.YtcognpfihojphaaB1
import Derived.Test.YtcognpfihojphaaB3
import Derived.Test.YtcognpfihojphaaB4
namespace Go.Proofs.Ytcognpfihojphaa
open Go.RowKit

/-- bounds as one value -/
def bdv (L T : Nat) (S : Bool) : Value := .agg #[.int .i64 (L : Nat), .int .i64 (T : Nat), .bool S]

set_option maxHeartbeats 1000000 in
theorem bounds_open (L : Nat) (w : World) :
    Calls Try.prog 22 #[.int .i64 (L : Nat), .int .i64 (-1)] w fun e w' => e = .returned (bdv L L true) ∧ Below w.heap.size w w' := by
  go_enter Try.func22, Try.ntmps22
  go_wp2
  exact bodyPost_ret (v := bdv L L true) (by simp [results, Try.results22, go_sem, bdv]) rfl ⟨rfl, (Below.refl _ _).alloc (Nat.le_refl _) _⟩
set_option maxHeartbeats 1000000 in
theorem bounds_to (L T : Nat) (w : World) :
    Calls Try.prog 22 #[.int .i64 (L : Nat), .int .i64 (T : Nat)] w fun e w' => e = .returned (bdv L T false) ∧ Below w.heap.size w w' := by
  have h : ((T : Int) == -1) = false := by simp
  go_enter Try.func22, Try.ntmps22
  go_wp2
  exact bodyPost_ret (v := bdv L T false) (by simp [results, Try.results22, go_sem, bdv]) rfl ⟨rfl, (Below.refl _ _).alloc (Nat.le_refl _) _⟩

theorem ic_zero (N : Nat) : madeCells #[.int .i64 0] N = ic (fun _ => 0) N := by
  unfold ic madeCells
  apply Array.ext
  · simp
  · intro i h1 h2
    simp [Nat.mod_one]
set_option maxHeartbeats 1000000 in
theorem newRing_any (L T : Nat) (S : Bool) (w : World) (hT : T ≤ 1000) :
    Calls Try.prog 27 #[bdv L T S] w fun e w' => ∃ g m, e = .returned (.pointer (some ⟨g, 0, none⟩)) ∧ RgB w' g m L T S 0 0 0 (fun _ => 0) ∧ w.heap.size ≤ g ∧ w.heap.size ≤ m ∧ Below w.heap.size w w' := by
  have hmk := run_make_row' (P := Try.prog) 68 3 (.int .i64 0) 8 Try.underlying68 (by kernel_rfl) rfl .i64 .i64 (T + 1) (by omega) (by omega)
  have q1 : IntKind.i64.wrap ((T : Int) + 1) = ((T + 1 : Nat) : Int) := by rw [IntKind.wrap_i64]; omega
  rw [ic_zero] at hmk
  have hic : Hid (ic (fun _ => 0) (T + 1) = ic (fun _ => 0) (T + 1)) := rfl
  generalize hN : T + 1 = N at hmk q1
  have HN := Lib.hid hN
  clear hN hic
  unfold bdv
  go_enter Try.func27, Try.ntmps27
  go_wp2
  go_region
  all_goals go_wp2
  have h0 := ((Rw.new (w.alloc (.cells #[.int .i64 (L : Nat), .int .i64 (T : Nat), .bool S] 60)) (ic (fun _ => 0) N) 3).alloc (.cells (rgc (w.heap.size + 1) L T S 0 0 0) 86)).drew
  have h1 := (Rw.new ((w.alloc (.cells #[.int .i64 (L : Nat), .int .i64 (T : Nat), .bool S] 60)).alloc (.cells (ic (fun _ => 0) N) 3)) (rgc (w.heap.size + 1) L T S 0 0 0) 86).drew
  simp only [World.size_alloc] at h0 h1
  obtain rfl : T + 1 = N := HN.out
  go_ret
  exact ⟨w.heap.size + 1 + 1, w.heap.size + 1, rfl, ⟨h1, h0, by omega, by omega⟩, by omega, by omega, ((((Below.refl _ _).alloc (Nat.le_refl _) _).alloc (by simp) _).alloc (by simp; omega) _).drew⟩

theorem VB.stepE {w w' : World} {g L T : Nat} {S : Bool} {A : Option Addr} {c : Nat} {xs : List (BitVec 64)} {A' : Option Addr} {c' : Nat} {es : List (BitVec 64)} (h : VB w g L T S A c xs A' c' es) (hb : Below w.heap.size w w')
    {A2 : Option Addr} {c2 : Nat} {ys : List (BitVec 64)} (hu : U64s w' A2 ys) (hc : ys.length ≤ c2) (hl : ys.length ≤ 4) : VB (w'.setCell ⟨g, 4, none⟩ (.slice A2 ys.length c2)) g L T S A c xs A2 c2 ys := by
  have r := h.rw.below hb h.rw.lt
  exact ⟨Rw.set_ r 4 _, (h.ux.below hb).set_far _ (fun h0 => u64s_ne r (h.ux.below hb) h0) _, hu.set_far _ (fun h0 => u64s_ne r hu h0) _, h.cx, hc, h.lx, hl⟩

set_option maxHeartbeats 1000000 in
theorem newVector_any (L T : Nat) (S : Bool) (w : World) (hL : L ≤ T) (hT : T ≤ 200) :
    Calls Try.prog 26 #[bdv L T S] w fun e w' => ∃ g, e = .returned (.pointer (some ⟨g, 0, none⟩)) ∧ VK w' g L T S agNone ∧ w.heap.size ≤ g ∧ Below w.heap.size w w' := by
  have b0 := (Rw.new w #[.int .i64 (L : Nat), .int .i64 (T : Nat), .bool S] 60).alloc (.cells (vcs L T S none 0 0 none 0 0) 82)
  have b1 := Rw.new (w.alloc (.cells #[.int .i64 (L : Nat), .int .i64 (T : Nat), .bool S] 60)) (vcs L T S none 0 0 none 0 0) 82
  have hb : Below w.heap.size w ((w.alloc (.cells #[.int .i64 (L : Nat), .int .i64 (T : Nat), .bool S] 60)).alloc (.cells (vcs L T S none 0 0 none 0 0) 82)) := ((Below.refl _ _).alloc (Nat.le_refl _) _).alloc (by simp) _
  simp only [World.size_alloc] at b1
  have hV : VB ((w.alloc (.cells #[.int .i64 (L : Nat), .int .i64 (T : Nat), .bool S] 60)).alloc (.cells (vcs L T S none 0 0 none 0 0) 82)) (w.heap.size + 1) L T S none 0 [] none 0 [] :=
    ⟨b1, fun h => by simp at h, fun h => by simp at h, Nat.le_refl _, Nat.le_refl _, by simp, by simp⟩
  have HB := Lib.hid hb; have HV := Lib.hid hV; have H0 := Lib.hid b0
  clear b0 b1 hb hV
  unfold bdv
  unfold vcs at HB HV H0
  go_enter Try.func26, Try.ntmps26
  go_wp2
  go_loopw [4] (fun a wr => ∃ (k : Nat) (A' : Option Addr) (c' : Nat) (es : List (BitVec 64)), L ≤ k ∧ k ≤ T + 1 ∧ a = .int .i64 k ∧ VB wr (w.heap.size + 1) L T S none 0 [] A' c' es ∧ Hid (∀ i, bit es i = decide (L ≤ i ∧ i < k)) ∧ Rw wr w.heap.size #[.int .i64 (L : Nat), .int .i64 (T : Nat), .bool S] 60 ∧ Below w.heap.size w wr) (fun a _ => T + 1 - (intOf a).toNat)
  case atStart => exact ⟨L, none, 0, [], by omega, by omega, rfl, HV.out, fun i => by rw [decide_eq_false (by omega)]; simp [bit], H0.out, HB.out⟩
  case round =>
    obtain ⟨k, A', c', es, hk1, hk2, rfl, hv, he, h0, hb⟩ := hrel
    clear HB HV H0
    have c1 : wr.cell? ⟨w.heap.size, 1, none⟩ = some (.int .i64 (T : Nat)) := Rw.cell h0 1
    by_cases hlt : k ≤ T
    · have c4 : wr.cell? ⟨w.heap.size + 1, 4, none⟩ = some (.slice A' es.length c') := Rw.cell hv.rw 4
      have D := Lib.hid (set_any A' c' k es wr hv.ue hv.ce (by have := hv.le; omega) (by omega))
      obtain ⟨_, hset, hlen⟩ := can_setv es k
      have hl4 : (setv es k).length ≤ 4 := by have := canon_le es; have := hv.le; omega
      have HE : Hid (∀ i, bit (setv es k) i = decide (L ≤ i ∧ i < k + 1)) := fun i => by
        rw [hset, he.out, Bool.eq_iff_iff]; simp; omega
      generalize setv es k = ys at *
      have HV := Lib.hid hv; have HB := Lib.hid hb; have H0 := Lib.hid h0
      clear hv hb h0 hset hlen he
      go_wp2_with fail
      refine D.out.mono ?_
      rintro e w' ⟨A2, c2, rfl, hc, hu, hf, hb⟩
      have r := HV.out.rw.below hb HV.out.rw.lt
      have d4 : w'.cell? ⟨w.heap.size + 1, 4, none⟩ = some (.slice A' es.length c') := Rw.cell r 4
      have f4 := Rw.frozen r 4
      have H1 := Lib.hid (HV.out.stepE hb hu hc hl4)
      have H2 := Lib.hid ((HB.out.trans (hb.mono HB.out.size)).setCell (p := ⟨w.heap.size + 1, 4, none⟩) (by simp) (.slice A2 ys.length c2))
      have H3 := Lib.hid ((H0.out.below hb H0.out.lt).far (p := ⟨w.heap.size + 1, 4, none⟩) (by simp) (.slice A2 ys.length c2))
      clear hu hb hf r D HV HB H0
      go_wp2
      go_roundw
      case rel => exact ⟨k + 1, A2, c2, ys, by omega, by omega, by go_num, H1.out, HE, H3.out, H2.out⟩
      case measure => simp [intOf]; omega
    · have HV := Lib.hid hv; have HB := Lib.hid hb
      clear hv hb h0
      go_wp2
      go_ret
      exact ⟨_, rfl, ⟨_, _, _, _, _, _, HV.out, fun i => by simp [bit, agNone], fun i => by rw [he.out, Bool.eq_iff_iff]; simp; omega, Sup.none T⟩, by omega, HB.out⟩
end Go.Proofs.Ytcognpfihojphaa
