/- Walks over the reference of pack: its eye. -/
import Derived.Test.YtmjhmjbbfklbdaaE2
namespace Go.Proofs.Ytmjhmjbbfklbdaa
open Go.RowKit

/-- block g is the reference's eye, at the place I of the bytes d -/
def REye (w : World) (g : Nat) (D : Option Addr) (c : Nat) (d : List Nat) (I : Nat) : Prop := w.heap[g]? = some (.cells #[.slice D d.length c, .int .i64 (I : Nat)] 43 (0, 0))
section
variable {w w' : World} {g c I : Nat} {D : Option Addr} {d : List Nat}
theorem REye.lt (h : REye w g D c d I) : g < w.heap.size := by
  rcases Nat.lt_or_ge g w.heap.size with hlt | hge
  · exact hlt
  · unfold REye at h; rw [Array.getElem?_eq_none hge] at h; cases h
theorem REye.cell0 (h : REye w g D c d I) : w.cell? ⟨g, 0, none⟩ = some (.slice D d.length c) := by
  rw [cell_of_row w g 0 _ 43 (0, 0) h]; rfl
theorem REye.cell1 (h : REye w g D c d I) : w.cell? ⟨g, 1, none⟩ = some (.int .i64 (I : Nat)) := by
  rw [cell_of_row w g 1 _ 43 (0, 0) h]; rfl
theorem REye.frozen (h : REye w g D c d I) (j : Nat) : w.frozen? ⟨g, j, none⟩ = false := by
  unfold REye at h; simp [World.frozen?, h]
theorem REye.below (h : REye w g D c d I) (hb : Below w.heap.size w w') : REye w' g D c d I := (hb.block g h.lt).trans h
theorem REye.set_ (h : REye w g D c d I) (J : Nat) : REye (w.setCell ⟨g, 1, none⟩ (.int .i64 (J : Nat))) g D c d J := by
  unfold REye at h ⊢
  simp [World.setCell, Array.getElem?_modify, h]
theorem REye.drewN (h : REye w g D c d I) (n : Nat) : REye (w.drewN n) g D c d I := h
end
def ReadU2 (w : World) (g : Nat) (D : Option Addr) (c : Nat) (d r : List Nat) (sz : Int) (e : Ending) (w' : World) : Prop :=
  e = .returned (.tuple #[.int .u64 (ruv r sz : Nat), .int .i64 (ruc r sz : Nat)]) ∧ ∃ J, Hid (sub d J d.length = rul r sz) ∧ J ≤ d.length ∧ REye w' g D c d J ∧ Fr w w' g none

set_option maxHeartbeats 2000000 in
theorem eye2Uint_any (g : Nat) (D : Option Addr) (c : Nat) (d : List Nat) (I : Nat) (sz : Int) (w : World) (hp : REye w g D c d I) (hd : Bts w D d) (hD : D = none → c = 0) (hc : d.length ≤ c) (hI : I ≤ d.length) (lx : d.length ≤ 140737488355328) (z1 : -9223372036854775808 ≤ sz) (z2 : sz ≤ 9223372036854775807) :
    Calls Try.prog 18 #[.pointer (some ⟨g, 0, none⟩), .int .i64 sz] w (ReadU2 w g D c d (sub d I d.length) sz) := by
  have c0 := hp.cell0
  have c1 := hp.cell1
  have f1 := hp.frozen 1
  have lr : (sub d I d.length).length = d.length - I := len_sub _ _ _ (by omega)
  by_cases h : 1 ≤ sz ∧ sz ≤ 8
  · by_cases hs : ((sub d I d.length).length : Int) < sz
    · have hcd : ruc (sub d I d.length) sz = 40 := by unfold ruc; rw [if_pos h, if_pos hs]
      have hv : ruv (sub d I d.length) sz = 0 := by unfold ruv; rw [if_neg (by rw [hcd]; decide)]
      have hl : rul (sub d I d.length) sz = sub d I d.length := by unfold rul; rw [if_neg (by rw [hcd]; decide)]
      have G : Hid (∀ e n, e = .returned (.tuple #[.int .u64 0, .int .i64 40]) → ReadU2 w g D c d (sub d I d.length) sz e (w.drewN n)) := fun e n he => ⟨by rw [he, hv, hcd]; rfl, I, hl.symm, hI, hp, (Fr.refl _ _ _).drewN n⟩
      have q1 : (d.length : Int) - (I : Int) < sz := by omega
      have q2 := h.1; have q3 := h.2
      have q4 : IntKind.i64.wrap ((d.length : Int) - (I : Int)) = (d.length : Int) - (I : Int) := IntWalk.i64_in _ (by omega)
      clear hp hd hD hc hcd hv hl lr hs h f1
      go_enter Try.func18, Try.ntmps18
      go_wp2_with fail
      go_quiet (fail)
      go_wp2
      go_ret2
      exact G.out _ nq rfl
    · obtain ⟨s, rfl⟩ : ∃ s : Nat, sz = (s : Int) := ⟨sz.toNat, by omega⟩
      have hcd : ruc (sub d I d.length) s = 0 := by unfold ruc; rw [if_pos h, if_neg hs]
      have hv : ruv (sub d I d.length) s = num (sub d I (I + s)) := by unfold ruv; rw [if_pos hcd, Int.toNat_natCast, sub_sub, Nat.add_zero]
      have hl : rul (sub d I d.length) s = sub d (I + s) d.length := by unfold rul; rw [if_pos hcd, Int.toNat_natCast, sub_sub, lr, show I + (d.length - I) = d.length by omega]
      obtain ⟨A1, b1, n1, _, s1, _, _⟩ := cut_any D c d I (I + s) (by omega) (by omega) hc hD
      have e1 : ((I + s : Nat) : Int) = (I : Int) + (s : Int) := by omega
      rw [e1, show I + s - I = s by omega] at s1
      have F1 : Hid (Fact30 w A1 s (num (sub d I (I + s)))) := ⟨_, b1 w hd, by rw [len_sub _ _ _ (by omega)]; omega, rfl, by omega⟩
      have hE := hp.set_ (I + s)
      rw [e1] at hE
      have G : Hid (∀ e n, e = .returned (.tuple #[.int .u64 (num (sub d I (I + s)) : Nat), .int .i64 0]) → ReadU2 w g D c d (sub d I d.length) s e ((w.drewN n).setCell ⟨g, 1, none⟩ (.int .i64 ((I : Int) + (s : Int))))) := fun e n he =>
        ⟨by rw [he, hv, hcd]; rfl, I + s, hl.symm, by omega, by have := (hp.drewN n).set_ (I + s); rw [e1] at this; exact this, ((Fr.refl w g none).drewN n).set_ 1 _⟩
      generalize num (sub d I (I + s)) = v at *
      have q1 : ¬ (d.length : Int) - (I : Int) < (s : Int) := by omega
      have q2 : (1 : Int) ≤ (s : Int) := h.1
      have q3 : (s : Int) ≤ 8 := h.2
      have q4 : IntKind.i64.wrap ((d.length : Int) - (I : Int)) = (d.length : Int) - (I : Int) := IntWalk.i64_in _ (by omega)
      have q5 : IntKind.i64.wrap ((I : Int) + (s : Int)) = (I : Int) + (s : Int) := IntWalk.i64_in _ (by omega)
      clear hp hd hD hc hcd hv hl lr hs h b1 n1 e1 hE
      go_enter Try.func18, Try.ntmps18
      go_wp2_with fail
      go_quiet (fail)
      go_wp2_with fail
      have G2 : Hid (∀ e n, e = .returned (.tuple #[.int .u64 (v : Nat), .int .i64 0]) → ReadU2 w g D c d (sub d I d.length) s e (((w.drewN nq).drewN n).setCell ⟨g, 1, none⟩ (.int .i64 ((I : Int) + (s : Int))))) := fun e n he => by
        rw [World.drewN_drewN]; exact G.out e (nq + n) he
      have c0' : (w.drewN nq).cell? ⟨g, 0, none⟩ = some (.slice D d.length c) := c0
      have c1' : (w.drewN nq).cell? ⟨g, 1, none⟩ = some (.int .i64 (I : Nat)) := c1
      have f1' : (w.drewN nq).frozen? ⟨g, 1, none⟩ = false := f1
      have F1' : Hid (Fact30 (w.drewN nq) A1 s v) := F1.out
      clear G c0 c1 f1 F1
      generalize w.drewN nq = w2 at *
      go_quiet ((go_at_call 31; with_reducible exact quiet31 _ _ _ _ _ _ (by exact F1'.out)))
      go_wp2
      go_ret2
      exact G2.out _ _ rfl
  · have hcd : ruc (sub d I d.length) sz = 2 := by unfold ruc; rw [if_neg h]
    have hv : ruv (sub d I d.length) sz = 0 := by unfold ruv; rw [if_neg (by rw [hcd]; decide)]
    have hl : rul (sub d I d.length) sz = sub d I d.length := by unfold rul; rw [if_neg (by rw [hcd]; decide)]
    have G : Hid (∀ e, e = .returned (.tuple #[.int .u64 0, .int .i64 2]) → ReadU2 w g D c d (sub d I d.length) sz e w) := fun e he => ⟨by rw [he, hv, hcd]; rfl, I, hl.symm, hI, hp, Fr.refl _ _ _⟩
    by_cases k1 : sz < 1
    · clear hp hd hD hc hcd hv hl lr h f1
      go_enter Try.func18, Try.ntmps18
      go_wp2
      go_ret2
      exact G.out _ rfl
    · have k2 : 8 < sz := by omega
      clear hp hd hD hc hcd hv hl lr h f1
      go_enter Try.func18, Try.ntmps18
      go_wp2
      go_ret2
      exact G.out _ rfl

def ReadB2 (w : World) (g : Nat) (D : Option Addr) (c : Nat) (d r : List Nat) (e : Ending) (w' : World) : Prop :=
  ∃ Ad cd bd J, e = .returned (.tuple #[.slice Ad bd.length cd, .int .i64 (rbc r : Nat)]) ∧ Hid (bd = rbb r) ∧ Bts w' Ad bd ∧ Hid (sub d J d.length = rbl r) ∧ J ≤ d.length ∧ REye w' g D c d J ∧ Fr w w' g none

set_option maxHeartbeats 2000000 in
theorem eye2Bytes_any (g : Nat) (D : Option Addr) (c : Nat) (d : List Nat) (I : Nat) (w : World) (hp : REye w g D c d I) (hd : Bts w D d) (hD : D = none → c = 0) (hc : d.length ≤ c) (hI : I ≤ d.length) (lx : d.length ≤ 140737488355328) :
    Calls Try.prog 20 #[.pointer (some ⟨g, 0, none⟩)] w (ReadB2 w g D c d (sub d I d.length)) := by
  have c0 := hp.cell0
  have c1 := hp.cell1
  have f1 := hp.frozen 1
  have lr : (sub d I d.length).length = d.length - I := len_sub _ _ _ (by omega)
  have q4 : IntKind.i64.wrap ((d.length : Int) - (I : Int)) = (d.length : Int) - (I : Int) := IntWalk.i64_in _ (by omega)
  by_cases h4 : d.length - I < 4
  · have hcd : rbc (sub d I d.length) = 40 := by unfold rbc; rw [lr, if_pos h4]
    have hb : rbb (sub d I d.length) = [] := by unfold rbb; rw [if_neg (by rw [hcd]; decide)]
    have hl : rbl (sub d I d.length) = sub d I d.length := by unfold rbl; rw [if_neg (by rw [hcd]; decide)]
    have G : Hid (∀ e n Ad o, e = .returned (.tuple #[.slice Ad 0 0, .int .i64 40]) → ReadB2 w g D c d (sub d I d.length) e ((w.drewN n).alloc o)) := fun e n Ad o he => ⟨Ad, 0, [], I, by rw [he, hcd]; rfl, hb.symm, bts_nil _ _, hl.symm, hI, (hp.drewN n).below (below_new _ _), ((Fr.refl _ _ _).drewN n).alloc _⟩
    have q1 : (d.length : Int) - (I : Int) < 4 := by omega
    have q2 : (0 : Int) ≤ (d.length : Int) - (I : Int) := by omega
    clear hp hd hD hc hcd hb hl lr h4 f1
    go_enter Try.func20, Try.ntmps20
    go_wp2_with fail
    go_quiet (fail)
    go_wp2
    go_ret2
    exact G.out _ nq _ _ rfl
  · obtain ⟨A1, b1, n1, _, s1, _, _⟩ := cut_any D c d I (I + 4) (by omega) (by omega) hc hD
    have e1 : ((I + 4 : Nat) : Int) = (I : Int) + 4 := by omega
    rw [e1, show I + 4 - I = 4 by omega] at s1
    have er4 : sub (sub d I d.length) 0 4 = sub d I (I + 4) := by rw [sub_sub, Nat.add_zero]
    have F1 : Hid (Fact30 w A1 4 (num (sub d I (I + 4)))) := ⟨_, b1 w hd, by rw [len_sub _ _ _ (by omega)]; omega, rfl, by omega⟩
    have qn := num4_lt hd.1 I (I + 4) (by rw [len_sub _ _ _ (by omega)]; omega)
    by_cases hs : d.length - I - 4 < num (sub d I (I + 4))
    · have hcd : rbc (sub d I d.length) = 40 := by unfold rbc; rw [lr, er4, if_neg h4, if_pos hs]
      have hb : rbb (sub d I d.length) = [] := by unfold rbb; rw [if_neg (by rw [hcd]; decide)]
      have hl : rbl (sub d I d.length) = sub d I d.length := by unfold rbl; rw [if_neg (by rw [hcd]; decide)]
      have G : Hid (∀ e n Ad o, e = .returned (.tuple #[.slice Ad 0 0, .int .i64 40]) → ReadB2 w g D c d (sub d I d.length) e ((w.drewN n).alloc o)) := fun e n Ad o he => ⟨Ad, 0, [], I, by rw [he, hcd]; rfl, hb.symm, bts_nil _ _, hl.symm, hI, (hp.drewN n).below (below_new _ _), ((Fr.refl _ _ _).drewN n).alloc _⟩
      generalize num (sub d I (I + 4)) = v at *
      have q1 : ¬ (d.length : Int) - (I : Int) < 4 := by omega
      have q2 : (0 : Int) ≤ (d.length : Int) - (I : Int) := by omega
      have q3 : (d.length : Int) - (I : Int) - 4 < (v : Int) := by omega
      have q5 : IntKind.i64.wrap ((I : Int) + 4) = (I : Int) + 4 := IntWalk.i64_in _ (by omega)
      clear hp hd hD hc hcd hb hl lr h4 f1 b1 n1 e1 er4 hs
      go_enter Try.func20, Try.ntmps20
      go_wp2_with fail
      go_quiet (fail)
      go_wp2_with fail
      have G2 : Hid (∀ e n Ad o, e = .returned (.tuple #[.slice Ad 0 0, .int .i64 40]) → ReadB2 w g D c d (sub d I d.length) e (((w.drewN nq).drewN n).alloc o)) := fun e n Ad o he => by
        rw [World.drewN_drewN]; exact G.out e (nq + n) Ad o he
      have c0' : (w.drewN nq).cell? ⟨g, 0, none⟩ = some (.slice D d.length c) := c0
      have c1' : (w.drewN nq).cell? ⟨g, 1, none⟩ = some (.int .i64 (I : Nat)) := c1
      have F1' : Hid (Fact30 (w.drewN nq) A1 4 v) := F1.out
      clear G c0 c1 F1
      generalize w.drewN nq = w2 at *
      go_quiet ((go_at_call 31; with_reducible exact quiet31 _ _ _ _ _ _ (by exact F1'.out)))
      go_wp2
      go_ret2
      exact G2.out _ _ _ _ rfl
    · --OK
      have hcd : rbc (sub d I d.length) = 0 := by unfold rbc; rw [lr, er4, if_neg h4, if_neg hs]
      obtain ⟨A2, b2, n2, o2, s2, _, _⟩ := cut_any D c d (I + 4) (I + 4 + num (sub d I (I + 4))) (by omega) (by omega) hc hD
      have eb : sub d (I + 4) (I + 4 + num (sub d I (I + 4))) = rbb (sub d I d.length) := by unfold rbb; rw [if_pos hcd, er4, sub_sub, Nat.add_assoc]
      have er : sub d (I + 4 + num (sub d I (I + 4))) d.length = rbl (sub d I d.length) := by unfold rbl; rw [if_pos hcd, er4, sub_sub, lr, Nat.add_assoc, show I + (d.length - I) = d.length by omega]
      have lbb : (rbb (sub d I d.length)).length = num (sub d I (I + 4)) := by rw [← eb, len_sub _ _ _ (by omega)]; omega
      rw [eb] at b2
      have XB : Hid (∀ W, Below w.heap.size w W → Bts W A2 (rbb (sub d I d.length))) := fun W hW => b2 W (hd.below hW)
      have N2 := Lib.hid n2
      have CC : Hid (∀ W, Below w.heap.size w W → W.cell? ⟨g, 0, none⟩ = some (.slice D d.length c) ∧ W.cell? ⟨g, 1, none⟩ = some (.int .i64 (I : Nat)) ∧ W.frozen? ⟨g, 1, none⟩ = false) := fun W hW => ⟨(hp.below hW).cell0, (hp.below hW).cell1, (hp.below hW).frozen 1⟩
      have G : Hid (∀ e W Ad cd bd u, Hid (bd = rbb (sub d I d.length)) → e = .returned (.tuple #[.slice Ad bd.length cd, .int .i64 0]) → Own W Ad cd bd → (∀ k, ow Ad = some k → w.heap.size ≤ k) → Below w.heap.size w W → u = .int .i64 ((I + 4 + num (sub d I (I + 4)) : Nat) : Int) → ReadB2 w g D c d (sub d I d.length) e (W.setCell ⟨g, 1, none⟩ u)) := fun e W Ad cd bd u hbd he ho hk hb hu => by
        subst hu
        refine ⟨Ad, cd, bd, I + 4 + num (sub d I (I + 4)), by rw [he, hcd]; rfl, hbd, ?_, er, by omega, (hp.below hb).set_ _, ?_⟩
        · exact ho.bts.far (p := ⟨g, 1, none⟩) (by intro h; have := hk g h; have := hp.lt; omega) _
        · have f0 : Fr w W g none := ⟨hb.os, hb.tape, hb.output, hb.size, fun k hk _ _ => hb.block k hk⟩
          exact f0.set_ 1 _
      rw [show I + 4 + num (sub d I (I + 4)) - (I + 4) = num (sub d I (I + 4)) by omega] at s2
      obtain ⟨bb, HBB⟩ : ∃ bb, Hid (bb = rbb (sub d I d.length)) := ⟨_, rfl⟩
      have ebb := HBB.out
      rw [← ebb] at lbb XB
      generalize num (sub d I (I + 4)) = v at *
      have e2 : ((I + 4 : Nat) : Int) = (I : Int) + 4 := by omega
      have e3 : ((I + 4 + v : Nat) : Int) = (I : Int) + 4 + (v : Int) := by omega
      have e4 : ((I + 4 + v : Nat) : Int) = (I : Int) + (4 + (v : Int)) := by omega
      have S3 := s2
      rw [e2, e3] at s2
      rw [e2, e4] at S3
      have q1 : ¬ (d.length : Int) - (I : Int) < 4 := by omega
      have q2 : (0 : Int) ≤ (d.length : Int) - (I : Int) := by omega
      have q3 : ¬ (d.length : Int) - (I : Int) - 4 < (v : Int) := by omega
      have q5 : IntKind.i64.wrap ((I : Int) + 4) = (I : Int) + 4 := IntWalk.i64_in _ (by omega)
      have q9 : IntKind.i64.wrap (v : Int) = (v : Int) := IntWalk.i64_in _ (by omega)
      have q6 : IntKind.i64.wrap ((I : Int) + 4 + (v : Int)) = (I : Int) + 4 + (v : Int) := IntWalk.i64_in _ (by omega)
      have q7 : IntKind.i64.wrap (4 + (v : Int)) = 4 + (v : Int) := IntWalk.i64_in _ (by omega)
      have q8 : IntKind.i64.wrap ((I : Int) + (4 + (v : Int))) = (I : Int) + (4 + (v : Int)) := IntWalk.i64_in _ (by omega)
      clear hp hd hD hc hcd lr h4 f1 b1 n1 e1 er4 hs b2 n2 o2 eb er ebb
      go_enter Try.func20, Try.ntmps20
      go_wp2_with fail
      go_quiet (fail)
      go_wp2_with fail
      have B1 : Hid (Below w.heap.size w (w.drewN nq)) := ⟨rfl, rfl, rfl, Nat.le_refl _, fun _ _ => rfl⟩
      have c0' : (w.drewN nq).cell? ⟨g, 0, none⟩ = some (.slice D d.length c) := c0
      have c1' : (w.drewN nq).cell? ⟨g, 1, none⟩ = some (.int .i64 (I : Nat)) := c1
      have F1' : Hid (Fact30 (w.drewN nq) A1 4 v) := F1.out
      clear c0 c1 F1
      generalize w.drewN nq = w2 at *
      go_quiet ((go_at_call 31; with_reducible exact quiet31 _ _ _ _ _ _ (by exact F1'.out)))
      have B2 : Hid (Below w.heap.size w (w2.drewN nq)) := ⟨B1.out.os, B1.out.tape, B1.out.output, B1.out.size, B1.out.block⟩
      clear B1 c0' c1' F1' 
      generalize w2.drewN nq = w3 at *
      obtain ⟨k0, k1, k2⟩ := CC.out w3 B2.out
      have B3 : Hid (Below w.heap.size w (w3.alloc (.cells #[] 5))) := B2.out.alloc B2.out.size _
      have OW : Hid (Own (w3.alloc (.cells #[] 5)) (some ⟨w3.heap.size, 0, none⟩) 0 []) := ⟨World.ownsRow_lit (base := 0) (e := 5) (size := 1) w3 #[] 0 (Nat.zero_le _) (Nat.zero_le _) (by simp), (fun x h => by cases h), fun h => by cases h⟩
      have XW := Lib.hid (XB.out _ B3.out)
      have G1 : Hid (∀ k, ow (some (⟨w3.heap.size, 0, none⟩ : Addr)) = some k → w.heap.size ≤ k) := fun j hj => by have := B2.out.size; have : w3.heap.size = j := (by simpa [ow] using hj); omega
      go_wp2_with fail
      go_region_held3 (fun w' => w'.cell? ⟨g, 0, none⟩ = some (.slice D d.length c) ∧ w'.cell? ⟨g, 1, none⟩ = some (.int .i64 (I : Nat)))
        (first | go_keep | exact ⟨by assumption, by assumption⟩)
        ((refine step_appB (by rfl) _ _ (by rfl) _ 0 [] (by exact OW.out) A2 _ bb (by exact XW.out) (by exact N2.out) (by simp; omega) (by rfl) (by rw [lbb]; rfl) ?_; intro R2 c2' l2 w4 hl2 ho2 hg2 hr2; have BB := Lib.hid (B3.out.drew.trans (grown_below (B := w.heap.size) hg2 G1.out B3.out.drew.size)); have GG := Lib.hid (nr_ge (B := w.heap.size) hr2 G1.out B3.out.drew.size); have OO := Lib.hid ho2; obtain ⟨k0, k1, k2⟩ := CC.out w4 BB.out))
      go_wp2
      go_ret2
      exact G.out _ _ _ _ _ _ (by show _ = _; rw [hl2.out, List.nil_append]; exact HBB.out) rfl OO.out GG.out BB.out (by rw [e4])
end Go.Proofs.Ytmjhmjbbfklbdaa
