/- A term made simpler is right, and no bigger: pure. Right, exactly. -/
import Derived.Test.YtkljagffccommaaE38
import Derived.Test.YtkljagffccommaaZB

/- A term made simpler is right, matches something if it did, and has no more positions: pure. -/
namespace Go.Proofs.Ytkljagffccommaa
open Go.RowKit
namespace Sp
/-- right, but for what matches nothing at all -/
inductive Rn : Tm → Prop
  | mk (op : Int) (f : Nat → Bool) (lo hi : Int) (ks : List Tm) (h1 : 1 ≤ op ∧ op ≤ 9) (hl : op < 6 ∨ op = 9 → ks = []) (h2 : op = 6 ∨ op = 7 → 2 ≤ ks.length) (h8 : op = 8 → ks.length = 1)
      (hn : op ≠ 8 → lo = 0 ∧ hi = 0) (hs : op ≠ 2 → eqK f noF = true) (hb : op = 8 → bndOk lo hi) (hk : ∀ k ∈ ks, Rn k) : Rn (.mk op f lo hi ks)
theorem woL_map : ∀ ks, woL ks = ks.map woT
  | [] => rfl
  | k :: r => by rw [woL, woL_map r]; rfl
theorem rn_of (t : Tm) : rightT (woT t) = true → Rn t := by
  induction t using Tm.ind with
  | h op f lo hi ks ih =>
    intro h
    rw [woT] at h
    split at h
    · rename_i e; subst e
      have R := right_is h
      have hks : ks = [] := R.leaf (by omega)
      subst hks
      exact .mk _ _ _ _ _ (by omega) (fun _ => rfl) (fun x => by omega) (fun x => by omega) (fun _ => R.num (by omega)) (fun _ => R.set (by omega)) (fun x => by omega) fun k hk => by cases hk
    · rename_i e
      have R := right_is h
      have o1 := R.op1
      have o8 := R.op8
      have hlen : (woL ks).length = ks.length := by rw [woL_map, List.length_map]
      refine .mk _ _ _ _ _ (by omega) (fun x => ?_) (fun x => by rw [← hlen]; exact R.two x) (fun x => by rw [← hlen]; exact R.rep x) R.num R.set R.bnd fun k hk => ?_
      · have := R.leaf (by omega)
        rw [← List.length_eq_zero_iff, ← hlen, this]; rfl
      · exact ih k hk (R.kids _ (by rw [woL_map]; exact List.mem_map_of_mem hk))
theorem rn_to {t : Tm} (h : Rn t) : rightT (woT t) = true := by
  induction h with
  | mk op f lo hi ks h1 hl h2 h8 hn hs hb hk ih =>
    rw [woT]
    split
    · rename_i e; subst e
      have hks := hl (.inr rfl)
      subst hks
      apply right_mk
      exact ⟨by omega, by omega, fun _ => rfl, fun x => by omega, fun x => by omega, fun _ => hn (by omega), fun _ => hs (by omega), fun x => by omega, fun k hk => by cases hk⟩
    · apply right_mk
      have hlen : (woL ks).length = ks.length := by rw [woL_map, List.length_map]
      refine ⟨by omega, by omega, fun x => by rw [hl (.inl x)]; rfl, fun x => by rw [hlen]; exact h2 x, fun x => by rw [hlen]; exact h8 x, hn, hs, hb, fun k hk => ?_⟩
      rw [woL_map] at hk
      obtain ⟨y, hy, rfl⟩ := List.mem_map.1 hk
      exact ih y hy
theorem Rn.wl {t : Tm} (h : Rn t) : Wl t := by
  induction h with
  | mk op f lo hi ks h1 hl h2 h8 hn hs hb hk ih => exact .mk _ _ _ _ _ (fun a b c => hl (by omega)) h8 ih
theorem Rn.kids {t : Tm} (h : Rn t) : ∀ k ∈ kidsOf t, Rn k := by cases h with | mk _ _ _ _ _ _ _ _ _ _ _ _ hk => exact hk
theorem eqk_no : eqK noF noF = true := (eqK_iff _ _).2 fun _ _ => rfl
theorem Rn.lf (op : Int) (h : op = 1 ∨ op = 9) : Rn (lfT op) := .mk _ _ _ _ _ (by omega) (fun _ => rfl) (fun x => by omega) (fun x => by omega) (fun _ => ⟨rfl, rfl⟩) (fun _ => eqk_no) (fun x => by omega) fun k hk => by cases hk
theorem Rn.join (f : Nat → Bool) {t : Tm} (h : Rn t) : Rn (joinK f t) := by
  by_cases e : opOf t = 2
  · cases h with
    | mk op g lo hi ks h1 hl h2 h8 hn hs hb hk =>
    obtain rfl : op = 2 := e
    rw [joinK_set]
    exact .mk _ _ _ _ _ h1 hl (fun x => by omega) (fun x => by omega) hn (fun x => absurd rfl x) (fun x => by omega) hk
  · rw [joinK_no f t e]; exact h
theorem rn_flat6 {s : Tm} (h : Rn s) : ∀ x ∈ flat6 s, Rn x := by
  intro x hx
  unfold flat6 at hx
  split at hx
  · exact h.kids x hx
  · split at hx
    · cases hx
    · rw [List.mem_singleton] at hx; rw [hx]; exact h
theorem rn_flat7 {s : Tm} (h : Rn s) : ∀ x ∈ flat7 s, Rn x := by
  intro x hx
  unfold flat7 at hx
  split at hx
  · exact h.kids x hx
  · split at hx
    · cases hx
    · rw [List.mem_singleton] at hx; rw [hx]; exact h
theorem rn_around {op : Int} (hop : op = 6 ∨ op = 7) {l : List Tm} (h : ∀ x ∈ l, Rn x) {no : Int} (hno : no = 1 ∨ no = 9) : Rn (around op l no) := by
  rcases l with _ | ⟨a, _ | ⟨b, r⟩⟩
  · exact .lf _ hno
  · exact h a (by simp)
  · exact .mk _ _ _ _ _ (by omega) (fun x => by omega) (fun _ => by simp) (fun x => by omega) (fun _ => ⟨rfl, rfl⟩) (fun _ => eqk_no) (fun x => by omega) h
theorem sim_rn {t : Tm} (h : Rn t) : Rn (simT t) := by
  induction h with
  | mk op f lo hi ks h1 hl h2 h8 hn hs hb hk ih =>
    have hN : ∀ x ∈ simL ks, Rn x := fun x hx => by
      rw [simL_map] at hx
      obtain ⟨k, hm, rfl⟩ := List.mem_map.1 hx
      exact ih k hm
    rw [simT]
    unfold leafS
    split
    · unfold sCat
      split
      · exact .lf _ (.inr rfl)
      · exact rn_around (.inl rfl) (fun x hx => by
          obtain ⟨s, hs, hx⟩ := List.mem_flatMap.1 hx
          exact rn_flat6 (hN s hs) x hx) (.inl rfl)
    · split
      · unfold sAlt
        refine rn_around (.inr rfl) ?_ (.inr rfl)
        apply norm_all (P := Rn) (fun f t h => h.join f) _ _ (fun x hx => by cases hx)
        intro x hx
        obtain ⟨s, hs, hx⟩ := List.mem_flatMap.1 hx
        exact rn_flat7 (hN s hs) x hx
      · split
        · exact .lf _ (.inr rfl)
        · split
          · rename_i e8
            obtain ⟨k, rfl⟩ : ∃ k, ks = [k] := by
              have := h8 e8
              rcases ks with _ | ⟨k, _ | ⟨_, _⟩⟩
              · cases this
              · exact ⟨k, rfl⟩
              · simp at this
            have hk1 : Rn (simT k) := hN _ (by rw [simL, simL]; simp)
            rw [simL, simL]
            show Rn (sRep f lo hi (simT k))
            unfold sRep
            repeat' split
            · exact .lf _ (.inl rfl)
            · exact .lf _ (.inl rfl)
            · exact hk1
            · exact hk1
            · subst e8
              exact .mk _ _ _ _ _ (by omega) (fun x => by omega) (fun x => by omega) (fun _ => rfl) (fun x => absurd rfl x) hs hb fun x hx => by rw [List.mem_singleton] at hx; rw [hx]; exact hk1
          · exact .mk _ _ _ _ _ h1 hl h2 h8 hn hs hb hk
/-- the answer of Right stays -/
theorem sim_right (t : Tm) (h : rightT (woT t) = true) : rightT (woT (simT t)) = true := rn_to (sim_rn (rn_of t h))
end Sp
end Go.Proofs.Ytkljagffccommaa

/- What FoldOnce asks of a term made simpler: pure. -/
namespace Go.Proofs.Ytkljagffccommaa
open Go.RowKit
theorem few_sz (t : Tm) : szT t ≤ 500 → Few t := by
  induction t using Tm.ind with
  | h op f lo hi ks ih =>
    intro h
    rw [szT] at h
    have hl : ∀ l : List Tm, l.length ≤ szL l := by
      intro l
      induction l with
      | nil => exact Nat.le_refl _
      | cons a r ih =>
        obtain ⟨op, f, lo, hi, ks⟩ := a
        rw [List.length_cons, szL, szT]; omega
    exact .mk _ _ _ _ _ (by have := hl ks; omega) fun k hk => ih k hk (by have := szL_mem ks k hk; omega)
theorem sz_join (f : Nat → Bool) (t : Tm) : szT (joinK f t) = szT t := by
  obtain ⟨op, g, lo, hi, ks⟩ := t
  show szT (if op = 2 then .mk op (fun i => g i || f i) lo hi ks else .mk op g lo hi ks) = _
  split <;> rfl
theorem szL_join (f : Nat → Bool) : ∀ o : List Tm, szL (o.map (joinK f)) = szL o
  | [] => rfl
  | k :: r => by rw [List.map_cons, szL, szL, sz_join, szL_join f r]
theorem szL_app : ∀ a b : List Tm, szL (a ++ b) = szL a + szL b
  | [], b => by simp [szL]
  | x :: r, b => by rw [List.cons_append, szL, szL, szL_app r b]; omega
theorem sz_push (o : List Tm) (k : Tm) : szL (push o k) ≤ szL o + szT k := by
  unfold push
  repeat' split
  · rw [szL_join]; omega
  · rw [szL_snoc]; omega
  · omega
  · rw [szL_snoc]; omega
theorem sz_norm : ∀ l o : List Tm, szL (norm o l) ≤ szL o + szL l
  | [], o => by show szL o ≤ _; omega
  | k :: r, o => by
    show szL (norm (push o k) r) ≤ _
    have h1 := sz_norm r (push o k)
    have h2 := sz_push o k
    rw [szL]; omega
theorem sz_flat6 (s : Tm) : szL (flat6 s) ≤ szT s := by
  obtain ⟨op, g, lo, hi, ks⟩ := s
  unfold flat6
  split
  · rw [szT]; show szL ks ≤ _; omega
  · split <;> simp [szL]
theorem sz_flat7 (s : Tm) : szL (flat7 s) ≤ szT s := by
  obtain ⟨op, g, lo, hi, ks⟩ := s
  unfold flat7
  split
  · rw [szT]; show szL ks ≤ _; omega
  · split <;> simp [szL]
theorem sz_flats (g : Tm → List Tm) (h : ∀ s, szL (g s) ≤ szT s) : ∀ l : List Tm, szL (l.flatMap g) ≤ szL l
  | [] => Nat.le_refl _
  | k :: r => by
    rw [List.flatMap_cons, szL_app, szL]
    have := h k
    have := sz_flats g h r
    omega
theorem sz_lf (op : Int) : szT (lfT op) = 1 := rfl
theorem sz_around (op : Int) : ∀ (l : List Tm) (no : Int), szT (around op l no) ≤ 1 + szL l
  | [], no => Nat.le_refl _
  | [x], _ => by show szT x ≤ _; rw [szL]; omega
  | x :: y :: r, _ => Nat.le_refl _
theorem sz_rep (f : Nat → Bool) (lo hi : Int) (k : Tm) : szT (sRep f lo hi k) ≤ 1 + szT k := by
  unfold sRep
  repeat' split
  · rw [sz_lf]; omega
  · rw [sz_lf]; omega
  · omega
  · omega
  · rw [szT, szL, szL]; omega
theorem sim_sz (t : Tm) : szT (simT t) ≤ szT t := by
  induction t using Tm.ind with
  | h op f lo hi ks ih =>
    have hL : szL (simL ks) ≤ szL ks := by
      rw [simL_map]
      clear f lo hi
      revert ih
      induction ks with
      | nil => exact fun _ => Nat.le_refl _
      | cons a r ih2 =>
        intro ih
        rw [List.map_cons, szL, szL]
        have h1 := ih a (by simp)
        have h2 := ih2 fun k hk => ih k (by simp [hk])
        omega
    rw [simT, szT]
    unfold leafS
    split
    · unfold sCat
      split
      · rw [sz_lf]; omega
      · have h1 := sz_around 6 ((simL ks).flatMap flat6) 1
        have h2 := sz_flats flat6 sz_flat6 (simL ks)
        omega
    · split
      · unfold sAlt
        have h1 := sz_around 7 (norm [] ((simL ks).flatMap flat7)) 9
        have h2 := sz_flats flat7 sz_flat7 (simL ks)
        have h3 := sz_norm ((simL ks).flatMap flat7) []
        have h4 : szL [] = 0 := rfl
        omega
      · split
        · rw [sz_lf]; omega
        · split
          · have h1 := sz_rep f lo hi ((simL ks).headD (lfT 1))
            cases hs : simL ks with
            | nil =>
              show szT (sRep f lo hi (lfT 1)) ≤ _
              have : sRep f lo hi (lfT 1) = lfT 1 := by unfold sRep; rw [if_pos (.inr rfl)]
              rw [this, sz_lf]; omega
            | cons a r =>
              rw [hs] at h1 hL
              rw [szL] at hL
              have h2 : szT (sRep f lo hi a) ≤ 1 + szT a := h1
              show szT (sRep f lo hi a) ≤ _
              omega
          · rw [szT]; omega
end Go.Proofs.Ytkljagffccommaa

/- Right, exactly; and what a walk of a law carries. As E11 and E12 have it, without what they bring along. -/
namespace Go.Proofs.Ytkljagffccommaa
open Go.RowKit
set_option maxRecDepth 100000 in
theorem right7E (t : Tm) (d : TD) (w : World) (ht : TR w t d) (hf : Few t) : Calls Try.prog 19 #[d.val] w (Tells w (.bool (rightT (woT t)))) := by
  have nb := below_new w (.cells d.cells 29)
  have h1 := (ht.keeps nb).inS
  have D1 := Lib.hid (without_any t d (w.alloc (.cells d.cells 29)).heap.size _ (Nat.le_refl _) h1 hf)
  have B1 := Lib.hid nb
  obtain ⟨⟨x0, x1, x2, x3, x4, x5, x6, x7⟩, _⟩ := (TB.new w d).all
  clear nb h1
  unfold TD.val TD.cells at *
  go_enter Try.func19, Try.ntmps19
  go_wp2_with fail
  refine D1.out.mono ?_
  rintro e w2 ⟨d2, rfl, hv2, hb2⟩
  have B2 := Lib.hid (B1.out.trans (hb2.mono B1.out.size))
  have D2 := Lib.hid (rightR_any (woT t) d2 w2 hv2.tr)
  clear D1 B1 hb2 hv2 x0 x1 x2 x3 x4 x5 x6 x7
  generalize rightT (woT t) = b at *
  unfold TD.val at *
  go_wp2_with fail
  refine D2.out.mono ?_
  rintro e w3 ⟨rfl, hb3⟩
  have B3 := Lib.hid (B2.out.trans (hb3.mono B2.out.size))
  clear D2 B2 hb3
  go_wp2
  go_ret
  exact ⟨rfl, B3.out⟩
/-- what a walk of a law carries: the term handed in, in its block -/
structure Cf (w wr : World) (t : Tm) (d : TD) : Prop where
  bel : Below w.heap.size w wr
  tb : TB wr w.heap.size d
  tr : TR wr t d
theorem step_cf {w wr w' : World} {t : Tm} {d : TD} (h : Hid (Cf w wr t d)) (hb : Below wr.heap.size wr w') : Hid (Cf w w' t d) := ⟨h.out.bel.trans (hb.mono h.out.bel.size), h.out.tb.below hb, h.out.tr.keeps hb⟩
theorem Cf.new {w : World} {t : Tm} {d : TD} (h : TR w t d) : Hid (Cf w (w.alloc (.cells d.cells 29)) t d) := ⟨below_new _ _, TB.new _ _, h.keeps (below_new _ _)⟩

end Go.Proofs.Ytkljagffccommaa
