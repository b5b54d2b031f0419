/- Right of every term; Right of the laws of width; small terms of terms; what the walks have in common. -/
import Derived.Test.YtnaecagmcpndhaaX4A
import Derived.Test.YtnaecagmcpndhaaX4B
import Derived.Test.YtnaecagmcpndhaaX3
import Derived.Test.YtnaecagmcpndhaaW16
namespace Go.Proofs.Ytnaecagmcpndhaa
open Go.RowKit
theorem right_any : ∀ (t : Tm) (d : TD) (w : World), TR w t d → Calls Try.prog 48 #[d.val] w (Rgt w t) := by
  intro t
  induction t using Tm.ind with
  | h op f lo hi ks ih =>
  intro d w ht
  by_cases ho : op < 1 ∨ 8 < op
  · exact right_out op ho f lo hi ks d w ht ih
  have h : op = 1 ∨ op = 2 ∨ op = 3 ∨ op = 4 ∨ op = 5 ∨ op = 6 ∨ op = 7 ∨ op = 8 := by omega
  rcases h with h | h | h | h | h | h | h | h
  · exact right_1 op h f lo hi ks d w ht ih
  · exact right_2 op h f lo hi ks d w ht ih
  · exact right_3 op h f lo hi ks d w ht ih
  · exact right_4 op h f lo hi ks d w ht ih
  · exact right_5 op h f lo hi ks d w ht ih
  · exact right_6 op h f lo hi ks d w ht ih
  · exact right_7 op h f lo hi ks d w ht ih
  · exact right_8 op h f lo hi ks d w ht ih
theorem woL_mem : ∀ (ks : List Tm) (k : Tm), k ∈ ks → woT k ∈ woL ks
  | [], k, h => by simp at h
  | t :: ks, k, h => by
    rw [woL]
    rcases List.mem_cons.1 h with rfl | h
    · exact List.mem_cons_self
    · exact List.mem_cons_of_mem _ (woL_mem ks k h)
theorem Rt.facts {op : Int} {f : Nat → Bool} {lo hi : Int} {ks : List Tm} (h : Rt (.mk op f lo hi ks)) : (1 ≤ op ∧ op ≤ 8) ∧ (op < 6 → ks.length = 0) ∧ (op = 6 ∨ op = 7 → 2 ≤ ks.length) ∧ (op = 8 → ks.length = 1 ∧ 0 ≤ lo ∧ lo ≤ 200 ∧ -1 ≤ hi ∧ hi ≤ 200 ∧ (0 ≤ hi → lo ≤ hi)) := by cases h with | mk _ _ _ _ _ h _ => exact h
theorem Rt.kid {op : Int} {f : Nat → Bool} {lo hi : Int} {ks : List Tm} (h : Rt (.mk op f lo hi ks)) {k : Tm} (hk : k ∈ ks) : Rt k := by cases h with | mk _ _ _ _ _ _ h => exact h k hk
theorem Rt.ok (t : Tm) (h : Rt (woT t)) : Ok t := by
  induction t using Tm.ind with
  | h op f lo hi ks ih =>
    by_cases h9 : op = 9
    · rw [woT, if_pos h9] at h
      have h0 : ks = [] := List.eq_nil_of_length_eq_zero (h.facts.2.1 (by omega))
      subst h0
      exact .mk _ _ _ _ _ (fun e => by omega) (fun k hk => by simp at hk)
    · rw [woT, if_neg h9] at h
      refine .mk _ _ _ _ _ (fun e => ?_) (fun k hk => ih k hk (h.kid (woL_mem ks k hk)))
      have := h.facts.2.2.2 e
      omega
set_option maxRecDepth 100000 in
theorem right7_any (t : Tm) (d : TD) (w : World) (ht : TR w t d) (hf : Few t) : Calls Try.prog 25 #[d.val] w (fun e w' => ∃ b : Bool, e = .returned (.bool b) ∧ (b = true → Rt (woT t)) ∧ Below w.heap.size w w') := by
  have nb := below_new w (.cells d.cells 29)
  have h1 := (ht.keeps nb).inS
  have D1 := Lib.hid (without_any t d (w.alloc (.cells d.cells 29)).heap.size _ (Nat.le_refl _) h1 hf)
  have B1 := Lib.hid nb
  obtain ⟨⟨x0, x1, x2, x3, x4, x5, x6, x7⟩, _⟩ := (TB.new w d).all
  clear nb h1
  unfold TD.val TD.cells at *
  go_enter Try.func25, Try.ntmps25
  go_wp2_with fail
  refine D1.out.mono ?_
  rintro e w2 ⟨d2, rfl, hv2, hb2⟩
  have B2 := Lib.hid (B1.out.trans (hb2.mono B1.out.size))
  have D2 := Lib.hid (right_any (woT t) d2 w2 hv2.tr)
  clear D1 B1 hb2 hv2 x0 x1 x2 x3 x4 x5 x6 x7
  unfold TD.val at *
  go_wp2_with fail
  refine D2.out.mono ?_
  rintro e w3 ⟨b, rfl, hb, hb3⟩
  have H := Lib.hid hb
  have B3 := Lib.hid (B2.out.trans (hb3.mono B2.out.size))
  clear D2 B2 hb3 hb
  go_wp2
  go_ret
  exact ⟨b, rfl, H.out, B3.out⟩
theorem isK0 : IsK noB (fun _ => 0#64) := isK_zero
/-- a term of one kid -/
theorem TR.one {w : World} {t : Tm} {d : TD} {b : Nat} (h : TR w t d) (hb : TB w b d) (op lo hi : Int) : TR w (.mk op noB lo hi [t]) ⟨op, fun _ => 0#64, lo, hi, some ⟨b, 0, none⟩, 1, 1⟩ := by
  refine .mk op noB lo hi [t] _ _ 1 [d] isK0 rfl (by simp) (fun i t' d' h1 h2 => ?_) fun _ => ⟨b, 0, rfl, hb.lt, fun i d' h1 j hj => ?_⟩
  · cases i with
    | zero => simp at h1 h2; subst h1; subst h2; exact h
    | succ i => simp at h1
  · cases i with
    | zero =>
      simp at h1; subst h1
      rw [cell_of_row w b _ _ 29 (0, 0) hb]
      simp
    | succ i => simp at h1
/-- a term of two kids -/
theorem TR.pair {w : World} {t u : Tm} {d e : TD} {b : Nat} (h : TR w t d) (h' : TR w u e) (hb : w.heap[b]? = some (.cells (d.cells ++ e.cells) 29 (0, 0))) (op lo hi : Int) : TR w (.mk op noB lo hi [t, u]) ⟨op, fun _ => 0#64, lo, hi, some ⟨b, 0, none⟩, 2, 2⟩ := by
  have hlt : b < w.heap.size := by
    rcases Nat.lt_or_ge b w.heap.size with h | h
    · exact h
    · rw [Array.getElem?_eq_none h] at hb; cases hb
  refine .mk op noB lo hi [t, u] _ _ 2 [d, e] isK0 rfl (by simp) (fun i t' d' h1 h2 => ?_) fun _ => ⟨b, 0, rfl, hlt, fun i d' h1 j hj => ?_⟩
  · match i with
    | 0 => simp at h1 h2; subst h1; subst h2; exact h
    | 1 => simp at h1 h2; subst h1; subst h2; exact h'
    | i + 2 => simp at h1
  · have hd : d.cells.size = 8 := rfl
    match i with
    | 0 =>
      simp at h1; subst h1
      rw [cell_of_row w b _ _ 29 (0, 0) hb, Array.getElem?_append_left (by omega)]
      simp
    | 1 =>
      simp at h1; subst h1
      rw [cell_of_row w b _ _ 29 (0, 0) hb, Array.getElem?_append_right (by omega), hd]
      congr 1
      omega
    | i + 2 => simp at h1
/-- a law's argument, and what is known of it -/
structure Cx (w wr : World) (b : Nat) (t : Tm) (d : TD) : Prop where
  bel : Below w.heap.size w wr
  tr : TR wr t d
  tb : TB wr b d
theorem Cx.to {w wr w' : World} {b : Nat} {t : Tm} {d : TD} (h : Cx w wr b t d) (hb : Below wr.heap.size wr w') : Cx w w' b t d := ⟨h.bel.trans (hb.mono h.bel.size), h.tr.keeps hb, h.tb.below hb⟩
theorem ok_one {t : Tm} (lo hi : Int) (h : Ok t) (h1 : (0 ≤ lo ∧ lo ≤ 200) ∧ (-1 ≤ hi ∧ hi ≤ 200)) : Ok (.mk 8 noB lo hi [t]) := .mk _ _ _ _ _ (fun _ => h1) (fun k hk => by simp at hk; rw [hk]; exact h)
theorem span_one (t : Tm) (lo hi : Int) : spanT (.mk 8 noB lo hi [t]) = repeatF (spanT t) lo hi := by rw [spanT]; simp [repX]
theorem span_star (t : Tm) : ∃ M, spanT (.mk 8 noB 0 (-1) [t]) = ⟨0, M, true⟩ ∧ (((spanT t).a = false ∧ M = 0) ∨ ((spanT t).a = true ∧ (spanT t).m = 0 ∧ M = 0) ∨ ((spanT t).a = true ∧ ¬ (spanT t).m = 0 ∧ M = -1)) := by
  rw [span_one]
  generalize spanT t = x
  obtain ⟨l, m, a⟩ := x
  cases a
  · exact ⟨0, by simp [repeatF], .inl ⟨rfl, rfl⟩⟩
  · by_cases hm : m = 0
    · exact ⟨0, by simp [repeatF, timesF, hm], .inr (.inl ⟨rfl, hm, rfl⟩)⟩
    · exact ⟨-1, by simp [repeatF, timesF, mostF, hm], .inr (.inr ⟨rfl, hm, rfl⟩)⟩
theorem pos_one (t : Tm) (lo hi : Int) (h : Ok t) : posT (.mk 8 noB lo hi [t]) = timesF (posT t) (copiesF lo hi) := by
  have hs := posT_sm t h
  have e : plusF 0 (posT t) = posT t := by unfold Sm at hs; unfold plusF; rw [if_pos (by omega)]; omega
  rw [posT]
  simp [posL, e]
theorem pos_star (t : Tm) (h : Ok t) : posT (.mk 8 noB 0 (-1) [t]) = posT t := by
  have hs := posT_sm t h
  rw [pos_one t _ _ h]
  unfold Sm at hs
  simp [copiesF, timesF]
  omega
theorem anc_one (t : Tm) (lo hi : Int) : ancT (.mk 8 noB lo hi [t]) = ancT t := by
  rw [ancT]
  simp [ancL]
/-- two terms that lie there -/
def Bo (w : World) (b b' : Nat) (t u : Tm) (d e : TD) (W : World) : Prop := Cx w W b t d ∧ Cx w W b' u e
theorem step_bo {w W w' : World} {b b' : Nat} {t u : Tm} {d e : TD} (h : Hid (Bo w b b' t u d e W)) (hb : Below W.heap.size W w') : Hid (Bo w b b' t u d e w') := ⟨h.out.1.to hb, h.out.2.to hb⟩
theorem span_no (t : Tm) (h : (spanT t).a = false) : (spanT t).l = 0 ∧ (spanT t).m = 0 := by
  suffices H : (spanT t).a = false → spanT t = ⟨0, 0, false⟩ by rw [H h]; exact ⟨rfl, rfl⟩
  clear h
  induction t using Tm.ind with
  | h op f lo hi ks ih =>
    have hc : ∀ (l : List Tm) (x : Ex), (∀ k ∈ l, (spanT k).a = false → spanT k = ⟨0, 0, false⟩) → (x.a = false → x = ⟨0, 0, false⟩) → (catX l x).a = false → catX l x = ⟨0, 0, false⟩ := by
      intro l
      induction l with
      | nil => intro x _ hx; rw [catX]; exact hx
      | cons k r ihl =>
        intro x hk hx
        rw [catX]
        refine ihl _ (fun y hy => hk y (by simp [hy])) ?_
        unfold thenF
        split
        · intro h; cases h
        · intro _; rfl
    have ha : ∀ (l : List Tm) (x : Ex), (∀ k ∈ l, (spanT k).a = false → spanT k = ⟨0, 0, false⟩) → (x.a = false → x = ⟨0, 0, false⟩) → (altX l x).a = false → altX l x = ⟨0, 0, false⟩ := by
      intro l
      induction l with
      | nil => intro x _ hx; rw [altX]; exact hx
      | cons k r ihl =>
        intro x hk hx
        rw [altX]
        refine ihl _ (fun y hy => hk y (by simp [hy])) ?_
        unfold orF
        split
        · split
          · intro h; cases h
          · exact hx
        · exact hk k (by simp)
    rw [spanT]
    split
    · intro h; cases h
    split
    · intro h; cases h
    split
    · split
      · intro _; rfl
      · intro h; cases h
    split
    · exact hc ks _ ih (fun h => by cases h)
    split
    · exact ha ks _ ih (fun _ => rfl)
    split
    · match ks with
      | [] => intro _; rw [repX]; simp
      | [k] =>
        rw [repX]
        unfold repeatF
        split
        · intro h; cases h
        · intro h
          have h' : decide (lo = 0) = false := h
          rw [h']
      | _ :: _ :: _ => intro _; rw [repX]; simp
    · intro _; rfl
theorem plus0 {a : Int} (h : Sm a) : plusF 0 a = a := by unfold Sm at h; unfold plusF; rw [if_pos (by omega)]; omega
theorem then0 (t : Tm) (h : Ok t) : thenF ⟨0, 0, true⟩ (spanT t) = spanT t := by
  have he := spanT_eo t h
  have hn := span_no t
  generalize spanT t = x at *
  obtain ⟨l, m, a⟩ := x
  cases a
  · obtain ⟨h1, h2⟩ := hn rfl
    simp only at h1 h2
    subst h1; subst h2
    rfl
  · have e1 : plusF 0 l = l := plus0 he.l
    have e2 : mostF plusF 0 m = m := by
      unfold mostF
      rcases he.m with hm | hm
      · simp only at hm
        rw [if_pos (.inr hm), hm]
      · rw [if_neg (by have := hm.1; simp only at this; omega)]; exact plus0 hm
    simp [thenF, e1, e2]
theorem span_cat2 (t u : Tm) (h : Ok t) : spanT (.mk 6 noB 0 0 [t, u]) = thenF (spanT t) (spanT u) := by
  rw [spanT]
  simp [catX, then0 t h]
theorem span_alt2 (t u : Tm) : spanT (.mk 7 noB 0 0 [t, u]) = orF (spanT t) (spanT u) := by
  rw [spanT]
  simp [altX, orF]
theorem pos_two (op : Int) (h6 : op = 6 ∨ op = 7) (t u : Tm) (h : Ok t) : posT (.mk op noB 0 0 [t, u]) = plusF (posT t) (posT u) := by
  have e := plus0 (posT_sm t h)
  rw [posT, if_neg (by omega), if_neg (by omega)]
  simp [posL, e]
theorem ok_two {t u : Tm} (op : Int) (h6 : op = 6 ∨ op = 7) (h : Ok t) (h' : Ok u) : Ok (.mk op noB 0 0 [t, u]) := .mk _ _ _ _ _ (fun e => by omega) (fun k hk => by
  simp at hk
  rcases hk with rfl | rfl
  · exact h
  · exact h')
/-- four terms that lie there -/
def Fo (w : World) (b0 b1 b2 b3 : Nat) (t u : Tm) (d e d2 d3 : TD) (W : World) : Prop := Cx w W b0 t d ∧ Cx w W b1 u e ∧ Cx w W b2 (.mk 6 noB 0 0 [t, u]) d2 ∧ Cx w W b3 (.mk 7 noB 0 0 [t, u]) d3
theorem step_fo {w W w' : World} {b0 b1 b2 b3 : Nat} {t u : Tm} {d e d2 d3 : TD} (h : Hid (Fo w b0 b1 b2 b3 t u d e d2 d3 W)) (hb : Below W.heap.size W w') : Hid (Fo w b0 b1 b2 b3 t u d e d2 d3 w') := ⟨h.out.1.to hb, h.out.2.1.to hb, h.out.2.2.1.to hb, h.out.2.2.2.to hb⟩
theorem step_b2 {w W w' : World} {b b' : Nat} {t u : Tm} {d e : TD} (h : Hid (Bo w b b' t u d e W)) (hb : Below W.heap.size W w') : Hid (Bo w b b' t u d e w') := step_bo h hb
theorem alloc4 (w : World) (A B C D : Obj) : (((((w.alloc A).alloc B).alloc C).alloc D).heap[w.heap.size]? = some A ∧ ((((w.alloc A).alloc B).alloc C).alloc D).heap[w.heap.size + 1]? = some B ∧ ((((w.alloc A).alloc B).alloc C).alloc D).heap[w.heap.size + 1 + 1]? = some C ∧ ((((w.alloc A).alloc B).alloc C).alloc D).heap[w.heap.size + 1 + 1 + 1]? = some D) ∧ Below w.heap.size w ((((w.alloc A).alloc B).alloc C).alloc D) := by
  have n1 := below_new (w.alloc A) B
  have n2 := below_new ((w.alloc A).alloc B) C
  have n3 := below_new (((w.alloc A).alloc B).alloc C) D
  have s1 : (w.alloc A).heap.size = w.heap.size + 1 := World.size_alloc ..
  have s2 : ((w.alloc A).alloc B).heap.size = w.heap.size + 1 + 1 := by rw [World.size_alloc, World.size_alloc]
  have s3 : (((w.alloc A).alloc B).alloc C).heap.size = w.heap.size + 1 + 1 + 1 := by rw [World.size_alloc, World.size_alloc, World.size_alloc]
  rw [s1] at n1; rw [s2] at n2; rw [s3] at n3
  refine ⟨⟨?_, ?_, ?_, ?_⟩, ?_⟩
  · rw [n3.block _ (by omega), n2.block _ (by omega), n1.block _ (by omega)]; exact heap_alloc_new w A
  · rw [n3.block _ (by omega), n2.block _ (by omega)]; have h := heap_alloc_new (w.alloc A) B; rw [s1] at h; exact h
  · rw [n3.block _ (by omega)]; have h := heap_alloc_new ((w.alloc A).alloc B) C; rw [s2] at h; exact h
  · have h := heap_alloc_new (((w.alloc A).alloc B).alloc C) D; rw [s3] at h; exact h
  · exact (((below_new w A).trans (n1.mono (by omega))).trans (n2.mono (by omega))).trans (n3.mono (by omega))
/-- what two terms together are -/
theorem sums_facts (t u : Tm) (h : Ok t) (h' : Ok u) : (spanT (.mk 6 noB 0 0 [t, u])).a = ((spanT t).a && (spanT u).a) ∧ (spanT (.mk 7 noB 0 0 [t, u])).a = ((spanT t).a || (spanT u).a) ∧
    ((spanT t).l ≤ 549755813888 → (spanT t).m ≤ 549755813888 → (spanT u).l ≤ 549755813888 → (spanT u).m ≤ 549755813888 → posT t ≤ 549755813888 → posT u ≤ 549755813888 →
      ((spanT t).a = true → (spanT u).a = true → IntKind.i64.wrap ((spanT t).l + (spanT u).l) = (spanT (.mk 6 noB 0 0 [t, u])).l ∧ min (spanT t).l (spanT u).l = (spanT (.mk 7 noB 0 0 [t, u])).l ∧
        (((spanT t).m < 0 ∧ (spanT (.mk 6 noB 0 0 [t, u])).m < 0) ∨ (¬ (spanT t).m < 0 ∧ (spanT u).m < 0 ∧ (spanT (.mk 6 noB 0 0 [t, u])).m < 0) ∨ (¬ (spanT t).m < 0 ∧ ¬ (spanT u).m < 0 ∧ IntKind.i64.wrap ((spanT t).m + (spanT u).m) = (spanT (.mk 6 noB 0 0 [t, u])).m ∧ ¬ (spanT (.mk 6 noB 0 0 [t, u])).m < 0))) ∧
      ((spanT t).a = true → (spanT u).a = false → (spanT (.mk 7 noB 0 0 [t, u])).l = (spanT t).l ∧ (spanT (.mk 7 noB 0 0 [t, u])).m = (spanT t).m) ∧ IntKind.i64.wrap (posT t + posT u) = posT (.mk 6 noB 0 0 [t, u])) := by
  rw [span_cat2 t u h, span_alt2, pos_two 6 (.inl rfl) t u h]
  have p1 := posT_sm t h
  have p2 := posT_sm u h'
  have e1 := spanT_eo t h
  have e2 := spanT_eo u h'
  generalize spanT t = x at *
  generalize spanT u = y at *
  generalize posT t = p at *
  generalize posT u = q at *
  obtain ⟨xl, xm, xa⟩ := x
  obtain ⟨yl, ym, ya⟩ := y
  have a1 := e1.l; have a2 := e1.m; have a3 := e2.l; have a4 := e2.m
  clear e1 e2
  unfold Sm at *
  simp only at *
  refine ⟨by cases xa <;> cases ya <;> rfl, by cases xa <;> cases ya <;> rfl, fun b1 b2 b3 b4 b5 b6 => ⟨fun hx hy => ?_, fun hx hy => ?_, ?_⟩⟩
  · subst hx; subst hy
    simp only [thenF, orF, Bool.and_self, if_true]
    refine ⟨?_, trivial, ?_⟩
    · unfold plusF; rw [if_pos (by omega), IntWalk.i64_in _ (by omega)]
    · unfold mostF plusF
      rcases a2 with a2 | a2
      · left; rw [if_pos (.inl a2)]; omega
      · rcases a4 with a4 | a4
        · right; left; rw [if_pos (.inr a4)]; omega
        · right; right
          rw [if_neg (by omega), if_pos (by omega), IntWalk.i64_in _ (by omega)]
          omega
  · subst hx; subst hy
    exact ⟨rfl, rfl⟩
  · unfold plusF; rw [if_pos (by omega), IntWalk.i64_in _ (by omega)]
end Go.Proofs.Ytnaecagmcpndhaa
