/- Walks over the pack package: eyes. -/
import Derived.Test.YtmjhmjbbfklbdaaW1
namespace Go.Proofs.Ytmjhmjbbfklbdaa
open Go.RowKit

/-- block g is an eye that has l yet to read -/
def Eye (w : World) (g : Nat) (A : Option Addr) (c : Nat) (l : List Nat) : Prop := w.heap[g]? = some (.cells #[.slice A l.length c] 65 (0, 0)) ∧ Bts w A l ∧ (A = none → c = 0) ∧ l.length ≤ c ∧ ow A ≠ some g
section
variable {w w' : World} {g : Nat} {A A' : Option Addr} {c c' : Nat} {l l' : List Nat}
theorem Eye.lt (h : Eye w g A c l) : g < w.heap.size := by
  rcases Nat.lt_or_ge g w.heap.size with hlt | hge
  · exact hlt
  · have := h.1; rw [Array.getElem?_eq_none hge] at this; cases this
theorem Eye.cell (h : Eye w g A c l) : w.cell? ⟨g, 0, none⟩ = some (.slice A l.length c) := by
  rw [cell_of_row w g 0 _ 65 (0, 0) h.1]; rfl
theorem Eye.frozen (h : Eye w g A c l) : w.frozen? ⟨g, 0, none⟩ = false := by
  simp [World.frozen?, h.1]
theorem Eye.below (h : Eye w g A c l) (hb : Below w.heap.size w w') : Eye w' g A c l := ⟨(hb.block g h.lt).trans h.1, h.2.1.below hb, h.2.2⟩
theorem Eye.drewN (h : Eye w g A c l) (n : Nat) : Eye (w.drewN n) g A c l := h
/-- bytes that lie elsewhere than what was stored -/
theorem Bts.far (h : Bts w A l) {p : Addr} (hp : ow A ≠ some p.block) (u : Value) : Bts (w.setCell p u) A l := ⟨h.1, fun h0 => by
  obtain ⟨b, off, rfl, hlt, hc⟩ := h.2 h0
  refine ⟨b, off, rfl, by simpa [World.setCell] using hlt, fun j hj => ?_⟩
  rw [World.cell?_of_block (a := ⟨b, off + j, none⟩) (Below.heap_setCell w p u b (fun e => hp (by rw [← e]; rfl)))]
  exact hc j hj⟩
theorem Eye.put (h : Eye w g A c l) (hb : Bts w A' l') (hn : A' = none → c' = 0) (hc : l'.length ≤ c') (ho : ow A' = ow A) : Eye (w.setCell ⟨g, 0, none⟩ (.slice A' l'.length c')) g A' c' l' := by
  have hne : ow A' ≠ some g := by rw [ho]; exact h.2.2.2.2
  refine ⟨?_, hb.far (p := ⟨g, 0, none⟩) hne _, hn, hc, hne⟩
  simp [World.setCell, Array.getElem?_modify, h.1]
end
theorem only_set (w : World) (g o : Nat) (u : Value) : w.grownBy (w.setCell ⟨g, o, none⟩ u) (some g) :=
  ⟨rfl, rfl, rfl, by simp [World.setCell], fun k _ hne => Below.heap_setCell w ⟨g, o, none⟩ u k (fun e => hne (by rw [e]))⟩

set_option maxHeartbeats 400000 in
theorem newEye_any (A : Option Addr) (c : Nat) (bs : List Nat) (w : World) (hx : Bts w A bs) (hA : A = none → c = 0) (lx : bs.length ≤ 140737488355328) :
    Calls Try.prog 16 #[.slice A bs.length c] w fun e w' => ∃ g A' c', e = .returned (.pointer (some ⟨g, 0, none⟩)) ∧ Eye w' g A' c' bs ∧ w.heap.size ≤ g ∧ (∀ k, ow A' = some k → w.heap.size ≤ k) ∧ Below w.heap.size w w' := by
  have D1 := Lib.hid (clone_any A c bs w hx hA lx)
  clear hx hA
  go_enter Try.func16, Try.ntmps16
  go_wp2_with fail
  refine D1.out.mono ?_
  rintro e w1 ⟨A', c', rfl, ho, hb, hn⟩
  have HE : Hid (Eye (w1.alloc (.cells #[.slice A' bs.length c'] 65)) w1.heap.size A' c' bs) := ⟨heap_alloc_new w1 _, (ho.alloc _).bts, ho.2.2, ho.cap, fun e => by have := ho.lt e; omega⟩
  have HB := Lib.hid (hb.alloc hb.size (.cells #[.slice A' bs.length c'] 65)); have HN := Lib.hid hn; have HZ := Lib.hid hb.size
  clear ho hb hn
  go_wp2
  go_ret
  exact ⟨w1.heap.size, A', c', rfl, HE.out, HZ.out, HN.out, HB.out⟩
set_option maxHeartbeats 400000 in
theorem left_any (g : Nat) (A : Option Addr) (c : Nat) (l : List Nat) (w : World) (hp : Eye w g A c l) (lx : l.length ≤ 140737488355328) :
    Calls Try.prog 21 #[.pointer (some ⟨g, 0, none⟩)] w fun e w' => e = .returned (.int .i64 (l.length : Nat)) ∧ w = w' := by
  have e1 := hp.cell
  clear hp
  go_enter Try.func21, Try.ntmps21
  go_wp2
  go_ret
  exact ⟨rfl, rfl⟩

/-- what an eye's Uint answers, and what it leaves -/
def ruc (l : List Nat) (sz : Int) : Nat := if 1 ≤ sz ∧ sz ≤ 8 then (if (l.length : Int) < sz then 40 else 0) else 2
def ruv (l : List Nat) (sz : Int) : Nat := if ruc l sz = 0 then num (sub l 0 sz.toNat) else 0
def rul (l : List Nat) (sz : Int) : List Nat := if ruc l sz = 0 then sub l sz.toNat l.length else l
def ReadU (w : World) (g : Nat) (A : Option Addr) (l : List Nat) (sz : Int) (e : Ending) (w' : World) : Prop :=
  e = .returned (.tuple #[.int .u64 (ruv l sz : Nat), .int .i64 (ruc l sz : Nat)]) ∧ ∃ A' c' l', Hid (l' = rul l sz) ∧ Eye w' g A' c' l' ∧ w.grownBy w' (some g) ∧ ow A' = ow A

set_option maxHeartbeats 1000000 in
theorem eyeUint_any (g : Nat) (A : Option Addr) (c : Nat) (l : List Nat) (sz : Int) (w : World) (hp : Eye w g A c l) (lx : l.length ≤ 140737488355328) :
    Calls Try.prog 17 #[.pointer (some ⟨g, 0, none⟩), .int .i64 sz] w (ReadU w g A l sz) := by
  by_cases h : 1 ≤ sz ∧ sz ≤ 8
  · have D0 := Lib.hid fun W => isSize_yes sz W h.1 h.2
    by_cases hs : (l.length : Int) < sz
    · have hc : ruc l sz = 40 := by unfold ruc; rw [if_pos h, if_pos hs]
      have hv : ruv l sz = 0 := by unfold ruv; rw [if_neg (by rw [hc]; decide)]
      have hl : rul l sz = l := by unfold rul; rw [if_neg (by rw [hc]; decide)]
      have G : Hid (∀ e, e = .returned (.tuple #[.int .u64 0, .int .i64 40]) → ReadU w g A l sz e w) := fun e he => ⟨by rw [he, hv, hc]; rfl, A, c, l, hl.symm, hp, ⟨rfl, rfl, rfl, Nat.le_refl _, fun _ _ _ => rfl⟩, rfl⟩
      have e1 := hp.cell
      clear hp hc hv hl h
      go_enter Try.func17, Try.ntmps17
      go_wp2_with fail
      refine (D0.out _).mono ?_
      rintro e w' ⟨rfl, rfl⟩
      go_wp2
      go_ret2
      exact G.out _ rfl
    · obtain ⟨s, rfl⟩ : ∃ s : Nat, sz = (s : Int) := ⟨sz.toNat, by omega⟩
      have hc : ruc l s = 0 := by unfold ruc; rw [if_pos h, if_neg hs]
      have hv : ruv l s = num (sub l 0 s) := by unfold ruv; rw [if_pos hc]; rfl
      have hl : rul l s = sub l s l.length := by unfold rul; rw [if_pos hc]; rfl
      obtain ⟨A1, b1, n1, _, _, s1, _⟩ := cut_any A c l 0 s (by omega) (by omega) hp.2.2.2.1 hp.2.2.1
      obtain ⟨A2, b2, n2, o2, _, _, s2⟩ := cut_any A c l s l.length (by omega) (by omega) hp.2.2.2.1 hp.2.2.1
      replace s1 := s1 rfl; replace s2 := s2 rfl
      simp only [Nat.sub_zero] at s1
      have l1 : (sub l 0 s).length = s := by rw [len_sub _ _ _ (by omega)]; omega
      have l2 : (sub l s l.length).length = l.length - s := len_sub _ _ _ (by omega)
      have D1 : Hid (Calls Try.prog 30 #[.slice A1 s c] w fun e w' => e = .returned (.int .u64 (num (sub l 0 s) : Nat)) ∧ w = w') := by
        have := number_any A1 c (sub l 0 s) w (b1 w hp.2.1) (by omega)
        rw [l1] at this; exact this
      have hE := hp.put (b2 w hp.2.1) n2 (by have := hp.2.2.2.1; omega) o2
      rw [l2] at hE
      have G : Hid (∀ e, e = .returned (.tuple #[.int .u64 (num (sub l 0 s) : Nat), .int .i64 0]) → ReadU w g A l s e (w.setCell ⟨g, 0, none⟩ (.slice A2 (l.length - s) (c - s)))) := fun e he =>
        ⟨by rw [he, hv, hc]; rfl, A2, c - s, sub l s l.length, hl.symm, hE, only_set w g 0 _, o2⟩
      have e1 := hp.cell
      have f1 := hp.frozen
      generalize num (sub l 0 s) = v at *
      have q1 : ¬ (l.length : Int) < (s : Int) := hs
      have q2 : (s : Int) ≤ (l.length : Int) := by omega
      clear hp hc hv hl hE b1 b2 n1 n2 o2 l1 l2 h hs
      go_enter Try.func17, Try.ntmps17
      go_wp2_with fail
      refine (D0.out _).mono ?_
      rintro e w' ⟨rfl, rfl⟩
      go_wp2_with fail
      with_reducible refine D1.out.mono ?_
      rintro e w' ⟨rfl, rfl⟩
      go_wp2
      go_ret2
      exact G.out _ rfl
  · have D0 := Lib.hid fun W => isSize_no sz W h
    have hc : ruc l sz = 2 := by unfold ruc; rw [if_neg h]
    have hv : ruv l sz = 0 := by unfold ruv; rw [if_neg (by rw [hc]; decide)]
    have hl : rul l sz = l := by unfold rul; rw [if_neg (by rw [hc]; decide)]
    have G : Hid (∀ e, e = .returned (.tuple #[.int .u64 0, .int .i64 2]) → ReadU w g A l sz e w) := fun e he => ⟨by rw [he, hv, hc]; rfl, A, c, l, hl.symm, hp, ⟨rfl, rfl, rfl, Nat.le_refl _, fun _ _ _ => rfl⟩, rfl⟩
    clear hp hc hv hl h
    go_enter Try.func17, Try.ntmps17
    go_wp2_with fail
    refine (D0.out _).mono ?_
    rintro e w' ⟨rfl, rfl⟩
    go_wp2
    go_ret2
    exact G.out _ rfl
end Go.Proofs.Ytmjhmjbbfklbdaa
