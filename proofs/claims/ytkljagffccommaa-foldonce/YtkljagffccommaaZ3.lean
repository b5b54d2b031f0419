/- The walk of FoldOnce. -/
import Derived.Test.YtkljagffccommaaZ2
import Derived.Test.YtkljagffccommaaZB

/- Right, exactly; and what a walk of a law carries. As E11 and E12 have it, without what they bring along. -/
namespace Go.Proofs.Ytkljagffccommaa
open Go.RowKit
set_option maxRecDepth 100000 in
theorem right7E (t : Tm) (d : TD) (w : World) (ht : TR w t d) (hf : Few t) : Calls Try.prog 19 #[d.val] w (Tells w (.bool (rightT (woT t)))) := by
  have nb := below_new w (.cells d.cells 29)
  have h1 := (ht.keeps nb).inS
  have D1 := Lib.hid (without_any t d (w.alloc (.cells d.cells 29)).heap.size _ (Nat.le_refl _) h1 hf)
  have B1 := Lib.hid nb
  obtain ⟨⟨x0, x1, x2, x3, x4, x5, x6, x7⟩, _⟩ := (TB.new w d).all
  clear nb h1
  unfold TD.val TD.cells at *
  go_enter Try.func19, Try.ntmps19
  go_wp2_with fail
  refine D1.out.mono ?_
  rintro e w2 ⟨d2, rfl, hv2, hb2⟩
  have B2 := Lib.hid (B1.out.trans (hb2.mono B1.out.size))
  have D2 := Lib.hid (rightR_any (woT t) d2 w2 hv2.tr)
  clear D1 B1 hb2 hv2 x0 x1 x2 x3 x4 x5 x6 x7
  generalize rightT (woT t) = b at *
  unfold TD.val at *
  go_wp2_with fail
  refine D2.out.mono ?_
  rintro e w3 ⟨rfl, hb3⟩
  have B3 := Lib.hid (B2.out.trans (hb3.mono B2.out.size))
  clear D2 B2 hb3
  go_wp2
  go_ret
  exact ⟨rfl, B3.out⟩
/-- what a walk of a law carries: the term handed in, in its block -/
structure Cf (w wr : World) (t : Tm) (d : TD) : Prop where
  bel : Below w.heap.size w wr
  tb : TB wr w.heap.size d
  tr : TR wr t d
theorem step_cf {w wr w' : World} {t : Tm} {d : TD} (h : Hid (Cf w wr t d)) (hb : Below wr.heap.size wr w') : Hid (Cf w w' t d) := ⟨h.out.bel.trans (hb.mono h.out.bel.size), h.out.tb.below hb, h.out.tr.keeps hb⟩
theorem Cf.new {w : World} {t : Tm} {d : TD} (h : TR w t d) : Hid (Cf w (w.alloc (.cells d.cells 29)) t d) := ⟨below_new _ _, TB.new _ _, h.keeps (below_new _ _)⟩

end Go.Proofs.Ytkljagffccommaa

/- What FoldOnce asks of a term made simpler: pure. -/
namespace Go.Proofs.Ytkljagffccommaa
open Go.RowKit
theorem few_sz (t : Tm) : szT t ≤ 500 → Few t := by
  induction t using Tm.ind with
  | h op f lo hi ks ih =>
    intro h
    rw [szT] at h
    have hl : ∀ l : List Tm, l.length ≤ szL l := by
      intro l
      induction l with
      | nil => exact Nat.le_refl _
      | cons a r ih =>
        obtain ⟨op, f, lo, hi, ks⟩ := a
        rw [List.length_cons, szL, szT]; omega
    exact .mk _ _ _ _ _ (by have := hl ks; omega) fun k hk => ih k hk (by have := szL_mem ks k hk; omega)
theorem sz_join (f : Nat → Bool) (t : Tm) : szT (joinK f t) = szT t := by
  obtain ⟨op, g, lo, hi, ks⟩ := t
  show szT (if op = 2 then .mk op (fun i => g i || f i) lo hi ks else .mk op g lo hi ks) = _
  split <;> rfl
theorem szL_join (f : Nat → Bool) : ∀ o : List Tm, szL (o.map (joinK f)) = szL o
  | [] => rfl
  | k :: r => by rw [List.map_cons, szL, szL, sz_join, szL_join f r]
theorem szL_app : ∀ a b : List Tm, szL (a ++ b) = szL a + szL b
  | [], b => by simp [szL]
  | x :: r, b => by rw [List.cons_append, szL, szL, szL_app r b]; omega
theorem sz_push (o : List Tm) (k : Tm) : szL (push o k) ≤ szL o + szT k := by
  unfold push
  repeat' split
  · rw [szL_join]; omega
  · rw [szL_snoc]; omega
  · omega
  · rw [szL_snoc]; omega
theorem sz_norm : ∀ l o : List Tm, szL (norm o l) ≤ szL o + szL l
  | [], o => by show szL o ≤ _; omega
  | k :: r, o => by
    show szL (norm (push o k) r) ≤ _
    have h1 := sz_norm r (push o k)
    have h2 := sz_push o k
    rw [szL]; omega
theorem sz_flat6 (s : Tm) : szL (flat6 s) ≤ szT s := by
  obtain ⟨op, g, lo, hi, ks⟩ := s
  unfold flat6
  split
  · rw [szT]; show szL ks ≤ _; omega
  · split <;> simp [szL]
theorem sz_flat7 (s : Tm) : szL (flat7 s) ≤ szT s := by
  obtain ⟨op, g, lo, hi, ks⟩ := s
  unfold flat7
  split
  · rw [szT]; show szL ks ≤ _; omega
  · split <;> simp [szL]
theorem sz_flats (g : Tm → List Tm) (h : ∀ s, szL (g s) ≤ szT s) : ∀ l : List Tm, szL (l.flatMap g) ≤ szL l
  | [] => Nat.le_refl _
  | k :: r => by
    rw [List.flatMap_cons, szL_app, szL]
    have := h k
    have := sz_flats g h r
    omega
theorem sz_lf (op : Int) : szT (lfT op) = 1 := rfl
theorem sz_around (op : Int) : ∀ (l : List Tm) (no : Int), szT (around op l no) ≤ 1 + szL l
  | [], no => Nat.le_refl _
  | [x], _ => by show szT x ≤ _; rw [szL]; omega
  | x :: y :: r, _ => Nat.le_refl _
theorem sz_rep (f : Nat → Bool) (lo hi : Int) (k : Tm) : szT (sRep f lo hi k) ≤ 1 + szT k := by
  unfold sRep
  repeat' split
  · rw [sz_lf]; omega
  · rw [sz_lf]; omega
  · omega
  · omega
  · rw [szT, szL, szL]; omega
theorem sim_sz (t : Tm) : szT (simT t) ≤ szT t := by
  induction t using Tm.ind with
  | h op f lo hi ks ih =>
    have hL : szL (simL ks) ≤ szL ks := by
      rw [simL_map]
      clear f lo hi
      revert ih
      induction ks with
      | nil => exact fun _ => Nat.le_refl _
      | cons a r ih2 =>
        intro ih
        rw [List.map_cons, szL, szL]
        have h1 := ih a (by simp)
        have h2 := ih2 fun k hk => ih k (by simp [hk])
        omega
    rw [simT, szT]
    unfold leafS
    split
    · unfold sCat
      split
      · rw [sz_lf]; omega
      · have h1 := sz_around 6 ((simL ks).flatMap flat6) 1
        have h2 := sz_flats flat6 sz_flat6 (simL ks)
        omega
    · split
      · unfold sAlt
        have h1 := sz_around 7 (norm [] ((simL ks).flatMap flat7)) 9
        have h2 := sz_flats flat7 sz_flat7 (simL ks)
        have h3 := sz_norm ((simL ks).flatMap flat7) []
        have h4 : szL [] = 0 := rfl
        omega
      · split
        · rw [sz_lf]; omega
        · split
          · have h1 := sz_rep f lo hi ((simL ks).headD (lfT 1))
            cases hs : simL ks with
            | nil =>
              show szT (sRep f lo hi (lfT 1)) ≤ _
              have : sRep f lo hi (lfT 1) = lfT 1 := by unfold sRep; rw [if_pos (.inr rfl)]
              rw [this, sz_lf]; omega
            | cons a r =>
              rw [hs] at h1 hL
              rw [szL] at hL
              have h2 : szT (sRep f lo hi a) ≤ 1 + szT a := h1
              show szT (sRep f lo hi a) ≤ _
              omega
          · rw [szT]; omega
theorem rt_of (t : Tm) : rightT t = true → Rt t := by
  induction t using Tm.ind with
  | h op f lo hi ks ih =>
    intro h
    have R := right_is h
    refine .mk _ _ _ _ _ ⟨⟨R.op1, R.op8⟩, fun x => by rw [R.leaf x]; rfl, R.two, fun x => ⟨R.rep x, ?_⟩⟩ fun k hk => ih k hk (R.kids k hk)
    have := R.bnd x
    unfold bndOk at this
    omega
/-- a term made simpler, as a law asks of it -/
structure Onc (t u : Tm) : Prop where
  s1 : (sPr t).s = u
  s2 : (sPr u).s = u
  z : szT u ≤ 500
  r : rightT (woT u) = true
  rt : Sp.Y.Rw t
  ru : Sp.Y.Rw u
  p : Sp.posT u ≤ Sp.posT t
  sp : Sp.spanT u = Sp.spanT t
  n : (Sp.spanT t).a = false → opOf u = 9
theorem onc_of {t : Tm} (hz : szT t ≤ 500) (hr : rightT (woT t) = true) : Onc t (simT t) := by
  have hn := Sp.rn_of t hr
  have hu := Sp.sim_rn hn
  have e1 := (simple_fits t hn.wl).same
  have e2 := (simple_fits (simT t) hu.wl).same
  have R := Sp.sim_right t hr
  have E := Sp.sim_span t hn.wl hn.rg
  refine ⟨e1, by rw [e2, sim_twice t hn.wl], by have := sim_sz t; omega, R, rt_of _ hr, rt_of _ R, Sp.sim_pos t hn.wl hn.rg, E, fun h => ?_⟩
  by_cases h9 : opOf (simT t) = 9
  · exact h9
  · have := Sp.sml_any (sim_sn t hn.wl) hu.rg h9
    rw [E, h] at this
    cases this
end Go.Proofs.Ytkljagffccommaa

/- The walk of FoldOnce, with what 'speaks' answers. -/
namespace Go.Proofs.Ytkljagffccommaa
open Go.RowKit

/-- the term handed in, in its block, and another in another -/
def Cgu (w wr : World) (b : Nat) (t u : Tm) (d e : TD) : Prop := Cf w wr t d ∧ TB wr b e ∧ TR wr u e
theorem step_cgu {w wr w' : World} {b : Nat} {t u : Tm} {d e : TD} (h : Hid (Cgu w wr b t u d e)) (hb : Below wr.heap.size wr w') : Hid (Cgu w w' b t u d e) := ⟨(step_cf h.out.1 hb).out, h.out.2.1.below hb, h.out.2.2.keeps hb⟩

/-- a term's eight cells -/
def TX (W : World) (b : Nat) (d : TD) : Prop := W.cell? ⟨b, 0, none⟩ = some (.int .i64 d.op) ∧ W.cell? ⟨b, 1, none⟩ = some (.int .u64 (uv (d.q 0))) ∧ W.cell? ⟨b, 2, none⟩ = some (.int .u64 (uv (d.q 1))) ∧ W.cell? ⟨b, 3, none⟩ = some (.int .u64 (uv (d.q 2))) ∧ W.cell? ⟨b, 4, none⟩ = some (.int .u64 (uv (d.q 3))) ∧ W.cell? ⟨b, 5, none⟩ = some (.int .i64 d.lo) ∧ W.cell? ⟨b, 6, none⟩ = some (.int .i64 d.hi) ∧ W.cell? ⟨b, 7, none⟩ = some (.slice d.A d.n d.c)
theorem bel_then {w W w' : World} (h : Below w.heap.size w W) (hb : Below W.heap.size W w') : Below w.heap.size w w' := h.trans (hb.mono h.size)

set_option maxRecDepth 100000 in
set_option maxHeartbeats 8000000 in
theorem once_walk (HS0 : ∀ w, Calls Try.prog 15 #[] w (Tells w (.bool true))) (t : Tm) (d : TD) (w : World) (ht : TR w t d) :
    Calls Try.prog 7 #[d.val] w (Tells w (.bool true)) := by
  have HS := Lib.hid HS0
  have C1 := Cf.new ht
  unfold TD.cells at C1
  unfold TD.val
  clear ht HS0
  go_enter Try.func7, Try.ntmps7
  go_wp2_with fail
  refine (HS.out _).mono ?_
  rintro e w2 ⟨rfl, hb2⟩
  have C2 := step_cf C1 hb2
  have D2 := great_sz t d w2 C2.out.tr
  unfold TD.val at D2
  have D2 := Lib.hid D2
  obtain ⟨⟨x0, x1, x2, x3, x4, x5, x6, x7⟩, -⟩ := C2.out.tb.all
  clear C1 hb2
  go_wp2_with fail
  refine D2.out.mono ?_
  rintro e w3 ⟨b3, rfl, hf3, hb3⟩
  have C3 := step_cf C2 hb3
  clear C2 D2 hb3 x0 x1 x2 x3 x4 x5 x6 x7
  obtain ⟨⟨x0, x1, x2, x3, x4, x5, x6, x7⟩, -⟩ := C3.out.tb.all
  cases b3 with
  | true =>
    go_wp2
    go_ret
    exact ⟨rfl, C3.out.bel⟩
  | false =>
    have HZ := Lib.hid (hf3 rfl)
    have D3 := right7E t d w3 C3.out.tr (few_sz t HZ.out)
    unfold TD.val at D3
    have D3 := Lib.hid D3
    clear hf3
    obtain ⟨rb, hrb⟩ : ∃ rb, rightT (woT t) = rb := ⟨_, rfl⟩
    rw [hrb] at D3
    have HR := Lib.hid hrb
    clear hrb
    go_wp2_with fail
    refine D3.out.mono ?_
    rintro e w4 ⟨rfl, hb4⟩
    have C4 := step_cf C3 hb4
    clear C3 D3 hb4 x0 x1 x2 x3 x4 x5 x6 x7
    obtain ⟨⟨x0, x1, x2, x3, x4, x5, x6, x7⟩, -⟩ := C4.out.tb.all
    cases rb with
    | false =>
      go_wp2
      go_ret
      exact ⟨rfl, C4.out.bel⟩
    | true =>
      obtain ⟨u, hu⟩ : ∃ u, Onc t u := ⟨_, onc_of HZ.out HR.out⟩
      have O := Lib.hid hu
      clear hu
      have D4 := simpleS_any t d w4 C4.out.tr HZ.out
      rw [O.out.s1] at D4
      have D5 : Hid (∀ d' W, TR W u d' → Calls Try.prog 21 #[d'.val] W (Wv W u)) := fun d' W h => by
        have := simpleS_any u d' W h O.out.z
        rw [O.out.s2] at this
        exact this
      have S1 : Hid (∀ W, TR W t d → Calls Try.prog 23 #[d.val] W (Tells W (.tuple #[.int .i64 (Sp.spanT t).l, .int .i64 (Sp.spanT t).m, .bool (Sp.spanT t).a]))) := fun W h => Sp.Y.spanref_any t d W h O.out.rt
      have S2 : Hid (∀ e' W, TR W u e' → Calls Try.prog 23 #[e'.val] W (Tells W (.tuple #[.int .i64 (Sp.spanT t).l, .int .i64 (Sp.spanT t).m, .bool (Sp.spanT t).a]))) := fun e' W h => by
        have := Sp.Y.spanref_any u e' W h O.out.ru
        rw [O.out.sp] at this
        exact this
      have P1 : Hid (∀ W, TR W t d → Calls Try.prog 24 #[d.val] W (Tells W (.int .i64 (Sp.posT t)))) := fun W h => Sp.Y.posref_any t d W h (Rt.ok t O.out.rt)
      have P2 : Hid (∀ e' W, TR W u e' → Calls Try.prog 24 #[e'.val] W (Tells W (.int .i64 (Sp.posT u)))) := fun e' W h => Sp.Y.posref_any u e' W h (Rt.ok u O.out.ru)
      have HN : Hid ((Sp.spanT t).a = false → opOf u = 9) := O.out.n
      have HP : Hid (Sp.posT u ≤ Sp.posT t) := O.out.p
      generalize (Sp.spanT t).l = sl at S1 S2
      generalize (Sp.spanT t).m = sm at S1 S2
      generalize (Sp.spanT t).a = sa at S1 S2 HN
      generalize Sp.posT t = pt at P1 HP
      generalize Sp.posT u = pu at P2 HP
      have D4 := Lib.hid D4
      clear HR
      unfold TD.val at D4
      go_wp2_with fail
      refine D4.out.mono ?_
      rintro e w5 ⟨d5, rfl, hv5, hb5⟩
      have C5 : Hid (Cgu w (w5.alloc (.cells d5.cells 29)) w5.heap.size t u d d5) := ⟨(step_cf (step_cf C4 hb5) (below_new w5 (.cells d5.cells 29))).out, TB.new w5 d5, (hv5.tr).keeps (below_new w5 (.cells d5.cells 29))⟩
      have D6 := Lib.hid (S1.out _ C5.out.1.tr)
      clear C4 D4 S1 hb5 hv5 x0 x1 x2 x3 x4 x5 x6 x7
      obtain ⟨⟨x0, x1, x2, x3, x4, x5, x6, x7⟩, -⟩ := C5.out.1.tb.all
      unfold TD.val TD.cells at *
      go_wp2_with fail
      refine D6.out.mono ?_
      rintro e w6 ⟨rfl, hb6⟩
      have C6 := step_cgu C5 hb6
      have D7 := S2.out _ _ C6.out.2.2
      unfold TD.val at D7
      have D7 := Lib.hid D7
      clear C5 D6 S2 hb6 x0 x1 x2 x3 x4 x5 x6 x7
      obtain ⟨⟨y0, y1, y2, y3, y4, y5, y6, y7⟩, -⟩ := C6.out.2.1.all
      go_wp2_with fail
      refine D7.out.mono ?_
      rintro e w7 ⟨rfl, hb7⟩
      have C7 := step_cgu C6 hb7
      have E9 : Hid (sa = false → (d5.op == 9) = true) := fun h => by rw [C7.out.2.2.op, HN.out h]; rfl
      have D8 : Hid (∀ W, Below w7.heap.size w7 W → Calls Try.prog 19 #[d5.val] W (Tells W (.bool true))) := fun W hW => by
        have := right7E u d5 W (C7.out.2.2.keeps hW) (few_sz u O.out.z)
        rw [O.out.r] at this
        exact this
      have D9 : Hid (∀ W, Below w7.heap.size w7 W → Calls Try.prog 21 #[d5.val] W (Wv W u)) := fun W hW => D5.out _ _ (C7.out.2.2.keeps hW)
      have D10 : Hid (∀ (d6 : TD) W, TR W u d6 → Below w7.heap.size w7 W → Calls Try.prog 13 #[d6.val, d5.val] W (Tells W (.bool true))) := fun d6 W h hW => by
        have := same_any u u d6 d5 W h (C7.out.2.2.keeps hW)
        rw [sameT_refl] at this
        exact this
      have D11 : Hid (∀ W, Below w7.heap.size w7 W → Calls Try.prog 24 #[d5.val] W (Tells W (.int .i64 pu))) := fun W hW => P2.out _ _ (C7.out.2.2.keeps hW)
      have D12 : Hid (∀ W, Below w7.heap.size w7 W → Calls Try.prog 24 #[d.val] W (Tells W (.int .i64 pt))) := fun W hW => P1.out _ (C7.out.1.tr.keeps hW)
      have HJ : Hid (∀ W, Below w7.heap.size w7 W → TX W w.heap.size d ∧ TX W w5.heap.size d5) := fun W hW => ⟨(C7.out.1.tb.below hW).all.1, (C7.out.2.1.below hW).all.1⟩
      clear C6 D7 hb7 y0 y1 y2 y3 y4 y5 y6 y7 P1 P2 D5 O HN
      have hp := HP.out
      obtain ⟨⟨x0, x1, x2, x3, x4, x5, x6, x7⟩, ⟨y0, y1, y2, y3, y4, y5, y6, y7⟩⟩ := HJ.out _ (Below.refl _ _)
      unfold TD.val at D8 D9 D10 D11 D12
      cases sa with
      | true =>
        clear E9
        go_wp2_with fail
        refine wp_region_held_drew (S := fun W => TX W w.heap.size d ∧ TX W w5.heap.size d5) (by kernel_rfl) (HJ.out _ (Below.refl _ _).drew) (fun hHeld => ?_)
        refine wpAnyH_take (i := 0) (oi := { dst := some 33, op := Op.load 29 (Operand.tmp 3), type := 29, pos := "law.go:79", after := #[], guard := none }) (v := ?_) rfl (by kernel_rfl) (by kernel_rfl) (by kernel_rfl) (fun _ _ _ h => h) (Or.inl ⟨by rfl, ?_⟩) (by assumption) ?_
        rotate_left
        · intro w hSw; obtain ⟨⟨_, _, _, _, _, _, _, _⟩, ⟨_, _, _, _, _, _, _, _⟩⟩ := hSw; first | (go_simp; done) | (go_simp; with_reducible rfl)
        try simp only [Act.put, List.setIfInBounds_toArray, List.set_cons_zero, List.set_cons_succ]
        refine wpAnyH_ready (rs := [1]) (by kernel_rfl) (by simp) ?_
        refine AllReadyH.cons (o := { dst := some 34, op := Op.call { callee := Callee.value (Operand.func 19), args := #[Operand.tmp 33], argTypes := #[29] }, type := 4, pos := "law.go:79", after := #[{ on := 0, ground := Ground.data }], guard := none }) rfl (fun K hK => ?_) AllReadyH.nil
        go_simp
        go_at_call 19
        refine (D8.out _ (by first | exact Below.refl _ _ | exact (Below.refl _ _).drew | assumption)).mono ?_
        rintro e w8 ⟨rfl, hb⟩
        have B8 : Below w7.heap.size w7 w8 := bel_then (by first | exact Below.refl _ _ | exact (Below.refl _ _).drew | assumption) hb
        clear hb D8
        try go_wp2_with fail
        clear hHeld
        refine hK.out _ _ (HJ.out _ B8) (fun hHeld => ?_)
        clear hK K
        try simp only [Act.put, List.setIfInBounds_toArray, List.set_cons_zero, List.set_cons_succ]
        refine wpAnyH_take (i := 2) (oi := { dst := some 35, op := Op.move (Operand.tmp 34), type := 4, pos := "law.go:79", after := #[{ on := 1, ground := Ground.data }, { on := 1, ground := Ground.chain }], guard := none }) (v := ?_) rfl (by kernel_rfl) (by kernel_rfl) (by kernel_rfl) (fun _ _ _ h => h) (Or.inl ⟨by rfl, ?_⟩) (by assumption) ?_
        rotate_left
        · intro w hSw; obtain ⟨⟨_, _, _, _, _, _, _, _⟩, ⟨_, _, _, _, _, _, _, _⟩⟩ := hSw; first | (go_simp; done) | (go_simp; with_reducible rfl)
        try simp only [Act.put, List.setIfInBounds_toArray, List.set_cons_zero, List.set_cons_succ]
        refine wpAnyH_take (i := 3) (oi := { dst := some 36, op := Op.load 29 (Operand.tmp 3), type := 29, pos := "law.go:79", after := #[{ on := 2, ground := Ground.guard }], guard := some (2, true) }) (v := ?_) rfl (by kernel_rfl) (by kernel_rfl) (by kernel_rfl) (fun _ _ _ h => h) (Or.inl ⟨by rfl, ?_⟩) (by assumption) ?_
        rotate_left
        · intro w hSw; obtain ⟨⟨_, _, _, _, _, _, _, _⟩, ⟨_, _, _, _, _, _, _, _⟩⟩ := hSw; first | (go_simp; done) | (go_simp; with_reducible rfl)
        try simp only [Act.put, List.setIfInBounds_toArray, List.set_cons_zero, List.set_cons_succ]
        refine wpAnyH_take (i := 5) (oi := { dst := some 38, op := Op.load 29 (Operand.tmp 3), type := 29, pos := "law.go:79", after := #[{ on := 2, ground := Ground.guard }], guard := some (2, true) }) (v := ?_) rfl (by kernel_rfl) (by kernel_rfl) (by kernel_rfl) (fun _ _ _ h => h) (Or.inl ⟨by rfl, ?_⟩) (by assumption) ?_
        rotate_left
        · intro w hSw; obtain ⟨⟨_, _, _, _, _, _, _, _⟩, ⟨_, _, _, _, _, _, _, _⟩⟩ := hSw; first | (go_simp; done) | (go_simp; with_reducible rfl)
        try simp only [Act.put, List.setIfInBounds_toArray, List.set_cons_zero, List.set_cons_succ]
        refine wpAnyH_ready (rs := [4]) (by kernel_rfl) (by simp) ?_
        refine AllReadyH.cons (o := { dst := some 37, op := Op.call { callee := Callee.value (Operand.func 21), args := #[Operand.tmp 36], argTypes := #[29] }, type := 29, pos := "law.go:79", after := #[{ on := 3, ground := Ground.data }, { on := 2, ground := Ground.chain }, { on := 2, ground := Ground.guard }], guard := some (2, true) }) rfl (fun K hK => ?_) AllReadyH.nil
        go_simp
        go_at_call 21
        refine (D9.out _ (by first | exact Below.refl _ _ | exact (Below.refl _ _).drew | assumption)).mono ?_
        rintro e w9 ⟨d6, rfl, hv, hb⟩
        have B9 : Below w7.heap.size w7 w9 := bel_then (by first | exact Below.refl _ _ | exact (Below.refl _ _).drew | assumption) hb
        have V9 := Lib.hid hv.tr; clear hv; unfold TD.val
        clear hb D9
        try go_wp2_with fail
        clear hHeld
        refine hK.out _ _ (HJ.out _ B9) (fun hHeld => ?_)
        clear hK K
        try simp only [Act.put, List.setIfInBounds_toArray, List.set_cons_zero, List.set_cons_succ]
        refine wpAnyH_ready (rs := [6]) (by kernel_rfl) (by simp) ?_
        refine AllReadyH.cons (o := { dst := some 39, op := Op.call { callee := Callee.value (Operand.func 13), args := #[Operand.tmp 37, Operand.tmp 38], argTypes := #[29, 29] }, type := 4, pos := "law.go:79", after := #[{ on := 4, ground := Ground.data }, { on := 5, ground := Ground.data }, { on := 4, ground := Ground.chain }, { on := 2, ground := Ground.guard }], guard := some (2, true) }) rfl (fun K hK => ?_) AllReadyH.nil
        go_simp
        go_at_call 13
        refine (D10.out d6 _ V9.out (by first | exact Below.refl _ _ | exact (Below.refl _ _).drew | assumption)).mono ?_
        rintro e w10 ⟨rfl, hb⟩
        have B10 : Below w7.heap.size w7 w10 := bel_then (by first | exact Below.refl _ _ | exact (Below.refl _ _).drew | assumption) hb
        clear hb D10
        try go_wp2_with fail
        clear hHeld
        refine hK.out _ _ (HJ.out _ B10) (fun hHeld => ?_)
        clear hK K
        try simp only [Act.put, List.setIfInBounds_toArray, List.set_cons_zero, List.set_cons_succ]
        refine wpAnyH_take (i := 7) (oi := { dst := some 40, op := Op.pick (Operand.tmp 35) (Operand.tmp 39) (Operand.const (Value.bool false)), type := 4, pos := "law.go:79", after := #[{ on := 2, ground := Ground.data }, { on := 6, ground := Ground.data }], guard := none }) (v := ?_) rfl (by kernel_rfl) (by kernel_rfl) (by kernel_rfl) (fun _ _ _ h => h) (Or.inl ⟨by rfl, ?_⟩) (by assumption) ?_
        rotate_left
        · intro w hSw; obtain ⟨⟨_, _, _, _, _, _, _, _⟩, ⟨_, _, _, _, _, _, _, _⟩⟩ := hSw; first | (go_simp; done) | (go_simp; with_reducible rfl)
        try simp only [Act.put, List.setIfInBounds_toArray, List.set_cons_zero, List.set_cons_succ]
        refine wpAnyH_take (i := 8) (oi := { dst := some 41, op := Op.move (Operand.tmp 40), type := 4, pos := "law.go:79", after := #[{ on := 7, ground := Ground.data }, { on := 6, ground := Ground.chain }], guard := none }) (v := ?_) rfl (by kernel_rfl) (by kernel_rfl) (by kernel_rfl) (fun _ _ _ h => h) (Or.inl ⟨by rfl, ?_⟩) (by assumption) ?_
        rotate_left
        · intro w hSw; obtain ⟨⟨_, _, _, _, _, _, _, _⟩, ⟨_, _, _, _, _, _, _, _⟩⟩ := hSw; first | (go_simp; done) | (go_simp; with_reducible rfl)
        try simp only [Act.put, List.setIfInBounds_toArray, List.set_cons_zero, List.set_cons_succ]
        refine wpAnyH_take (i := 9) (oi := { dst := some 42, op := Op.load 29 (Operand.tmp 3), type := 29, pos := "law.go:79", after := #[{ on := 8, ground := Ground.guard }], guard := some (8, true) }) (v := ?_) rfl (by kernel_rfl) (by kernel_rfl) (by kernel_rfl) (fun _ _ _ h => h) (Or.inl ⟨by rfl, ?_⟩) (by assumption) ?_
        rotate_left
        · intro w hSw; obtain ⟨⟨_, _, _, _, _, _, _, _⟩, ⟨_, _, _, _, _, _, _, _⟩⟩ := hSw; first | (go_simp; done) | (go_simp; with_reducible rfl)
        try simp only [Act.put, List.setIfInBounds_toArray, List.set_cons_zero, List.set_cons_succ]
        refine wpAnyH_take (i := 11) (oi := { dst := some 44, op := Op.load 29 (Operand.tmp 1), type := 29, pos := "law.go:79", after := #[{ on := 8, ground := Ground.guard }], guard := some (8, true) }) (v := ?_) rfl (by kernel_rfl) (by kernel_rfl) (by kernel_rfl) (fun _ _ _ h => h) (Or.inl ⟨by rfl, ?_⟩) (by assumption) ?_
        rotate_left
        · intro w hSw; obtain ⟨⟨_, _, _, _, _, _, _, _⟩, ⟨_, _, _, _, _, _, _, _⟩⟩ := hSw; first | (go_simp; done) | (go_simp; with_reducible rfl)
        try simp only [Act.put, List.setIfInBounds_toArray, List.set_cons_zero, List.set_cons_succ]
        refine wpAnyH_ready (rs := [10]) (by kernel_rfl) (by simp) ?_
        refine AllReadyH.cons (o := { dst := some 43, op := Op.call { callee := Callee.value (Operand.func 24), args := #[Operand.tmp 42], argTypes := #[29] }, type := 3, pos := "law.go:79", after := #[{ on := 9, ground := Ground.data }, { on := 8, ground := Ground.chain }, { on := 8, ground := Ground.guard }], guard := some (8, true) }) rfl (fun K hK => ?_) AllReadyH.nil
        go_simp
        go_at_call 24
        refine (D11.out _ (by first | exact Below.refl _ _ | exact (Below.refl _ _).drew | assumption)).mono ?_
        rintro e w11 ⟨rfl, hb⟩
        have B11 : Below w7.heap.size w7 w11 := bel_then (by first | exact Below.refl _ _ | exact (Below.refl _ _).drew | assumption) hb
        clear hb D11
        try go_wp2_with fail
        clear hHeld
        refine hK.out _ _ (HJ.out _ B11) (fun hHeld => ?_)
        clear hK K
        try simp only [Act.put, List.setIfInBounds_toArray, List.set_cons_zero, List.set_cons_succ]
        refine wpAnyH_ready (rs := [12]) (by kernel_rfl) (by simp) ?_
        refine AllReadyH.cons (o := { dst := some 45, op := Op.call { callee := Callee.value (Operand.func 24), args := #[Operand.tmp 44], argTypes := #[29] }, type := 3, pos := "law.go:79", after := #[{ on := 11, ground := Ground.data }, { on := 10, ground := Ground.chain }, { on := 8, ground := Ground.guard }], guard := some (8, true) }) rfl (fun K hK => ?_) AllReadyH.nil
        go_simp
        go_at_call 24
        refine (D12.out _ (by first | exact Below.refl _ _ | exact (Below.refl _ _).drew | assumption)).mono ?_
        rintro e w12 ⟨rfl, hb⟩
        have B12 : Below w7.heap.size w7 w12 := bel_then (by first | exact Below.refl _ _ | exact (Below.refl _ _).drew | assumption) hb
        clear hb D12
        try go_wp2_with fail
        clear hHeld
        refine hK.out _ _ (HJ.out _ B12) (fun hHeld => ?_)
        clear hK K
        try simp only [Act.put, List.setIfInBounds_toArray, List.set_cons_zero, List.set_cons_succ]
        refine wpAnyH_take (i := 13) (oi := { dst := some 46, op := Op.binOp BinOp.leq 3 (Operand.tmp 43) (Operand.tmp 45) 3, type := 4, pos := "law.go:79", after := #[{ on := 10, ground := Ground.data }, { on := 12, ground := Ground.data }, { on := 8, ground := Ground.guard }], guard := some (8, true) }) (v := ?_) rfl (by kernel_rfl) (by kernel_rfl) (by kernel_rfl) (fun _ _ _ h => h) (Or.inl ⟨by rfl, ?_⟩) (by assumption) ?_
        rotate_left
        · intro w hSw; obtain ⟨⟨_, _, _, _, _, _, _, _⟩, ⟨_, _, _, _, _, _, _, _⟩⟩ := hSw; first | (go_simp; done) | (go_simp; with_reducible rfl)
        try simp only [Act.put, List.setIfInBounds_toArray, List.set_cons_zero, List.set_cons_succ]
        refine wpAnyH_take (i := 14) (oi := { dst := some 47, op := Op.pick (Operand.tmp 41) (Operand.tmp 46) (Operand.const (Value.bool false)), type := 4, pos := "law.go:79", after := #[{ on := 8, ground := Ground.data }, { on := 13, ground := Ground.data }], guard := none }) (v := ?_) rfl (by kernel_rfl) (by kernel_rfl) (by kernel_rfl) (fun _ _ _ h => h) (Or.inl ⟨by rfl, ?_⟩) (by assumption) ?_
        rotate_left
        · intro w hSw; obtain ⟨⟨_, _, _, _, _, _, _, _⟩, ⟨_, _, _, _, _, _, _, _⟩⟩ := hSw; first | (go_simp; done) | (go_simp; with_reducible rfl)
        try simp only [Act.put, List.setIfInBounds_toArray, List.set_cons_zero, List.set_cons_succ]
        refine wpAnyH_take (i := 15) (oi := { dst := some 48, op := Op.move (Operand.tmp 47), type := 4, pos := "law.go:79", after := #[{ on := 14, ground := Ground.data }, { on := 12, ground := Ground.chain }], guard := none }) (v := ?_) rfl (by kernel_rfl) (by kernel_rfl) (by kernel_rfl) (fun _ _ _ h => h) (Or.inl ⟨by rfl, ?_⟩) (by assumption) ?_
        rotate_left
        · intro w hSw; obtain ⟨⟨_, _, _, _, _, _, _, _⟩, ⟨_, _, _, _, _, _, _, _⟩⟩ := hSw; first | (go_simp; done) | (go_simp; with_reducible rfl)
        try simp only [Act.put, List.setIfInBounds_toArray, List.set_cons_zero, List.set_cons_succ]
        refine wpAnyH_take (i := 16) (oi := { dst := some 49, op := Op.move (Operand.tmp 4), type := 3, pos := "law.go:79", after := #[{ on := 15, ground := Ground.guard }], guard := some (15, true) }) (v := ?_) rfl (by kernel_rfl) (by kernel_rfl) (by kernel_rfl) (fun _ _ _ h => h) (Or.inl ⟨by rfl, ?_⟩) (by assumption) ?_
        rotate_left
        · intro w hSw; obtain ⟨⟨_, _, _, _, _, _, _, _⟩, ⟨_, _, _, _, _, _, _, _⟩⟩ := hSw; first | (go_simp; done) | (go_simp; with_reducible rfl)
        try simp only [Act.put, List.setIfInBounds_toArray, List.set_cons_zero, List.set_cons_succ]
        refine wpAnyH_take (i := 17) (oi := { dst := some 50, op := Op.move (Operand.tmp 7), type := 3, pos := "law.go:79", after := #[{ on := 15, ground := Ground.guard }], guard := some (15, true) }) (v := ?_) rfl (by kernel_rfl) (by kernel_rfl) (by kernel_rfl) (fun _ _ _ h => h) (Or.inl ⟨by rfl, ?_⟩) (by assumption) ?_
        rotate_left
        · intro w hSw; obtain ⟨⟨_, _, _, _, _, _, _, _⟩, ⟨_, _, _, _, _, _, _, _⟩⟩ := hSw; first | (go_simp; done) | (go_simp; with_reducible rfl)
        try simp only [Act.put, List.setIfInBounds_toArray, List.set_cons_zero, List.set_cons_succ]
        refine wpAnyH_take (i := 18) (oi := { dst := some 51, op := Op.binOp BinOp.eql 3 (Operand.tmp 49) (Operand.tmp 50) 3, type := 4, pos := "law.go:79", after := #[{ on := 16, ground := Ground.data }, { on := 17, ground := Ground.data }, { on := 15, ground := Ground.guard }], guard := some (15, true) }) (v := ?_) rfl (by kernel_rfl) (by kernel_rfl) (by kernel_rfl) (fun _ _ _ h => h) (Or.inl ⟨by rfl, ?_⟩) (by assumption) ?_
        rotate_left
        · intro w hSw; obtain ⟨⟨_, _, _, _, _, _, _, _⟩, ⟨_, _, _, _, _, _, _, _⟩⟩ := hSw; first | (go_simp; done) | (go_simp; with_reducible rfl)
        try simp only [Act.put, List.setIfInBounds_toArray, List.set_cons_zero, List.set_cons_succ]
        refine wpAnyH_take (i := 19) (oi := { dst := some 52, op := Op.pick (Operand.tmp 48) (Operand.tmp 51) (Operand.const (Value.bool false)), type := 4, pos := "law.go:79", after := #[{ on := 15, ground := Ground.data }, { on := 18, ground := Ground.data }], guard := none }) (v := ?_) rfl (by kernel_rfl) (by kernel_rfl) (by kernel_rfl) (fun _ _ _ h => h) (Or.inl ⟨by rfl, ?_⟩) (by assumption) ?_
        rotate_left
        · intro w hSw; obtain ⟨⟨_, _, _, _, _, _, _, _⟩, ⟨_, _, _, _, _, _, _, _⟩⟩ := hSw; first | (go_simp; done) | (go_simp; with_reducible rfl)
        try simp only [Act.put, List.setIfInBounds_toArray, List.set_cons_zero, List.set_cons_succ]
        refine wpAnyH_take (i := 20) (oi := { dst := some 53, op := Op.move (Operand.tmp 52), type := 4, pos := "law.go:79", after := #[{ on := 19, ground := Ground.data }, { on := 15, ground := Ground.chain }], guard := none }) (v := ?_) rfl (by kernel_rfl) (by kernel_rfl) (by kernel_rfl) (fun _ _ _ h => h) (Or.inl ⟨by rfl, ?_⟩) (by assumption) ?_
        rotate_left
        · intro w hSw; obtain ⟨⟨_, _, _, _, _, _, _, _⟩, ⟨_, _, _, _, _, _, _, _⟩⟩ := hSw; first | (go_simp; done) | (go_simp; with_reducible rfl)
        try simp only [Act.put, List.setIfInBounds_toArray, List.set_cons_zero, List.set_cons_succ]
        refine wpAnyH_take (i := 21) (oi := { dst := some 54, op := Op.move (Operand.tmp 5), type := 3, pos := "law.go:79", after := #[{ on := 20, ground := Ground.guard }], guard := some (20, true) }) (v := ?_) rfl (by kernel_rfl) (by kernel_rfl) (by kernel_rfl) (fun _ _ _ h => h) (Or.inl ⟨by rfl, ?_⟩) (by assumption) ?_
        rotate_left
        · intro w hSw; obtain ⟨⟨_, _, _, _, _, _, _, _⟩, ⟨_, _, _, _, _, _, _, _⟩⟩ := hSw; first | (go_simp; done) | (go_simp; with_reducible rfl)
        try simp only [Act.put, List.setIfInBounds_toArray, List.set_cons_zero, List.set_cons_succ]
        refine wpAnyH_take (i := 22) (oi := { dst := some 55, op := Op.move (Operand.tmp 8), type := 3, pos := "law.go:79", after := #[{ on := 20, ground := Ground.guard }], guard := some (20, true) }) (v := ?_) rfl (by kernel_rfl) (by kernel_rfl) (by kernel_rfl) (fun _ _ _ h => h) (Or.inl ⟨by rfl, ?_⟩) (by assumption) ?_
        rotate_left
        · intro w hSw; obtain ⟨⟨_, _, _, _, _, _, _, _⟩, ⟨_, _, _, _, _, _, _, _⟩⟩ := hSw; first | (go_simp; done) | (go_simp; with_reducible rfl)
        try simp only [Act.put, List.setIfInBounds_toArray, List.set_cons_zero, List.set_cons_succ]
        refine wpAnyH_take (i := 23) (oi := { dst := some 56, op := Op.binOp BinOp.eql 3 (Operand.tmp 54) (Operand.tmp 55) 3, type := 4, pos := "law.go:79", after := #[{ on := 21, ground := Ground.data }, { on := 22, ground := Ground.data }, { on := 20, ground := Ground.guard }], guard := some (20, true) }) (v := ?_) rfl (by kernel_rfl) (by kernel_rfl) (by kernel_rfl) (fun _ _ _ h => h) (Or.inl ⟨by rfl, ?_⟩) (by assumption) ?_
        rotate_left
        · intro w hSw; obtain ⟨⟨_, _, _, _, _, _, _, _⟩, ⟨_, _, _, _, _, _, _, _⟩⟩ := hSw; first | (go_simp; done) | (go_simp; with_reducible rfl)
        try simp only [Act.put, List.setIfInBounds_toArray, List.set_cons_zero, List.set_cons_succ]
        refine wpAnyH_take (i := 24) (oi := { dst := some 57, op := Op.pick (Operand.tmp 53) (Operand.tmp 56) (Operand.const (Value.bool false)), type := 4, pos := "law.go:79", after := #[{ on := 20, ground := Ground.data }, { on := 23, ground := Ground.data }], guard := none }) (v := ?_) rfl (by kernel_rfl) (by kernel_rfl) (by kernel_rfl) (fun _ _ _ h => h) (Or.inl ⟨by rfl, ?_⟩) (by assumption) ?_
        rotate_left
        · intro w hSw; obtain ⟨⟨_, _, _, _, _, _, _, _⟩, ⟨_, _, _, _, _, _, _, _⟩⟩ := hSw; first | (go_simp; done) | (go_simp; with_reducible rfl)
        try simp only [Act.put, List.setIfInBounds_toArray, List.set_cons_zero, List.set_cons_succ]
        refine wpAnyH_take (i := 25) (oi := { dst := some 58, op := Op.move (Operand.tmp 57), type := 4, pos := "law.go:79", after := #[{ on := 24, ground := Ground.data }, { on := 20, ground := Ground.chain }], guard := none }) (v := ?_) rfl (by kernel_rfl) (by kernel_rfl) (by kernel_rfl) (fun _ _ _ h => h) (Or.inl ⟨by rfl, ?_⟩) (by assumption) ?_
        rotate_left
        · intro w hSw; obtain ⟨⟨_, _, _, _, _, _, _, _⟩, ⟨_, _, _, _, _, _, _, _⟩⟩ := hSw; first | (go_simp; done) | (go_simp; with_reducible rfl)
        try simp only [Act.put, List.setIfInBounds_toArray, List.set_cons_zero, List.set_cons_succ]
        refine wpAnyH_take (i := 26) (oi := { dst := some 59, op := Op.move (Operand.tmp 6), type := 4, pos := "law.go:79", after := #[{ on := 25, ground := Ground.guard }], guard := some (25, true) }) (v := ?_) rfl (by kernel_rfl) (by kernel_rfl) (by kernel_rfl) (fun _ _ _ h => h) (Or.inl ⟨by rfl, ?_⟩) (by assumption) ?_
        rotate_left
        · intro w hSw; obtain ⟨⟨_, _, _, _, _, _, _, _⟩, ⟨_, _, _, _, _, _, _, _⟩⟩ := hSw; first | (go_simp; done) | (go_simp; with_reducible rfl)
        try simp only [Act.put, List.setIfInBounds_toArray, List.set_cons_zero, List.set_cons_succ]
        refine wpAnyH_take (i := 27) (oi := { dst := some 60, op := Op.move (Operand.tmp 9), type := 4, pos := "law.go:79", after := #[{ on := 25, ground := Ground.guard }], guard := some (25, true) }) (v := ?_) rfl (by kernel_rfl) (by kernel_rfl) (by kernel_rfl) (fun _ _ _ h => h) (Or.inl ⟨by rfl, ?_⟩) (by assumption) ?_
        rotate_left
        · intro w hSw; obtain ⟨⟨_, _, _, _, _, _, _, _⟩, ⟨_, _, _, _, _, _, _, _⟩⟩ := hSw; first | (go_simp; done) | (go_simp; with_reducible rfl)
        try simp only [Act.put, List.setIfInBounds_toArray, List.set_cons_zero, List.set_cons_succ]
        refine wpAnyH_take (i := 28) (oi := { dst := some 61, op := Op.binOp BinOp.eql 4 (Operand.tmp 59) (Operand.tmp 60) 4, type := 4, pos := "law.go:79", after := #[{ on := 26, ground := Ground.data }, { on := 27, ground := Ground.data }, { on := 25, ground := Ground.guard }], guard := some (25, true) }) (v := ?_) rfl (by kernel_rfl) (by kernel_rfl) (by kernel_rfl) (fun _ _ _ h => h) (Or.inl ⟨by rfl, ?_⟩) (by assumption) ?_
        rotate_left
        · intro w hSw; obtain ⟨⟨_, _, _, _, _, _, _, _⟩, ⟨_, _, _, _, _, _, _, _⟩⟩ := hSw; first | (go_simp; done) | (go_simp; with_reducible rfl)
        try simp only [Act.put, List.setIfInBounds_toArray, List.set_cons_zero, List.set_cons_succ]
        refine wpAnyH_take (i := 29) (oi := { dst := some 62, op := Op.pick (Operand.tmp 58) (Operand.tmp 61) (Operand.const (Value.bool false)), type := 4, pos := "law.go:79", after := #[{ on := 25, ground := Ground.data }, { on := 28, ground := Ground.data }], guard := none }) (v := ?_) rfl (by kernel_rfl) (by kernel_rfl) (by kernel_rfl) (fun _ _ _ h => h) (Or.inl ⟨by rfl, ?_⟩) (by assumption) ?_
        rotate_left
        · intro w hSw; obtain ⟨⟨_, _, _, _, _, _, _, _⟩, ⟨_, _, _, _, _, _, _, _⟩⟩ := hSw; first | (go_simp; done) | (go_simp; with_reducible rfl)
        try simp only [Act.put, List.setIfInBounds_toArray, List.set_cons_zero, List.set_cons_succ]
        refine wpAnyH_take (i := 30) (oi := { dst := some 63, op := Op.move (Operand.tmp 62), type := 4, pos := "law.go:79", after := #[{ on := 29, ground := Ground.data }, { on := 25, ground := Ground.chain }], guard := none }) (v := ?_) rfl (by kernel_rfl) (by kernel_rfl) (by kernel_rfl) (fun _ _ _ h => h) (Or.inl ⟨by rfl, ?_⟩) (by assumption) ?_
        rotate_left
        · intro w hSw; obtain ⟨⟨_, _, _, _, _, _, _, _⟩, ⟨_, _, _, _, _, _, _, _⟩⟩ := hSw; first | (go_simp; done) | (go_simp; with_reducible rfl)
        try simp only [Act.put, List.setIfInBounds_toArray, List.set_cons_zero, List.set_cons_succ]
        refine wpAnyH_take (i := 31) (oi := { dst := some 64, op := Op.move (Operand.tmp 6), type := 4, pos := "law.go:79", after := #[{ on := 30, ground := Ground.guard }], guard := some (30, true) }) (v := ?_) rfl (by kernel_rfl) (by kernel_rfl) (by kernel_rfl) (fun _ _ _ h => h) (Or.inl ⟨by rfl, ?_⟩) (by assumption) ?_
        rotate_left
        · intro w hSw; obtain ⟨⟨_, _, _, _, _, _, _, _⟩, ⟨_, _, _, _, _, _, _, _⟩⟩ := hSw; first | (go_simp; done) | (go_simp; with_reducible rfl)
        try simp only [Act.put, List.setIfInBounds_toArray, List.set_cons_zero, List.set_cons_succ]
        refine wpAnyH_take (i := 32) (oi := { dst := some 65, op := Op.move (Operand.tmp 64), type := 4, pos := "law.go:79", after := #[{ on := 31, ground := Ground.data }, { on := 30, ground := Ground.chain }, { on := 30, ground := Ground.guard }], guard := some (30, true) }) (v := ?_) rfl (by kernel_rfl) (by kernel_rfl) (by kernel_rfl) (fun _ _ _ h => h) (Or.inl ⟨by rfl, ?_⟩) (by assumption) ?_
        rotate_left
        · intro w hSw; obtain ⟨⟨_, _, _, _, _, _, _, _⟩, ⟨_, _, _, _, _, _, _, _⟩⟩ := hSw; first | (go_simp; done) | (go_simp; with_reducible rfl)
        try simp only [Act.put, List.setIfInBounds_toArray, List.set_cons_zero, List.set_cons_succ]
        refine wpAnyH_take (i := 33) (oi := { dst := some 66, op := Op.fieldAddr 29 (Operand.tmp 3) 0, type := 0, pos := "law.go:79", after := #[{ on := 32, ground := Ground.guard }], guard := some (32, false) }) (v := undef) rfl (by kernel_rfl) (by kernel_rfl) (by kernel_rfl) (fun _ _ _ h => h) (Or.inr ⟨by rfl, rfl⟩) (by assumption) ?_
        try simp only [Act.put, List.setIfInBounds_toArray, List.set_cons_zero, List.set_cons_succ]
        refine wpAnyH_take (i := 34) (oi := { dst := some 67, op := Op.load 3 (Operand.tmp 66), type := 3, pos := "law.go:79", after := #[{ on := 33, ground := Ground.data }, { on := 32, ground := Ground.guard }], guard := some (32, false) }) (v := undef) rfl (by kernel_rfl) (by kernel_rfl) (by kernel_rfl) (fun _ _ _ h => h) (Or.inr ⟨by rfl, rfl⟩) (by assumption) ?_
        try simp only [Act.put, List.setIfInBounds_toArray, List.set_cons_zero, List.set_cons_succ]
        refine wpAnyH_take (i := 35) (oi := { dst := some 68, op := Op.binOp BinOp.eql 3 (Operand.tmp 67) (Operand.const (Value.int IntKind.i64 9)) 3, type := 4, pos := "law.go:79", after := #[{ on := 34, ground := Ground.data }, { on := 32, ground := Ground.guard }], guard := some (32, false) }) (v := undef) rfl (by kernel_rfl) (by kernel_rfl) (by kernel_rfl) (fun _ _ _ h => h) (Or.inr ⟨by rfl, rfl⟩) (by assumption) ?_
        try simp only [Act.put, List.setIfInBounds_toArray, List.set_cons_zero, List.set_cons_succ]
        refine wpAnyH_take (i := 36) (oi := { dst := some 69, op := Op.pick (Operand.tmp 65) (Operand.const (Value.bool true)) (Operand.tmp 68), type := 4, pos := "law.go:79", after := #[{ on := 32, ground := Ground.data }, { on := 35, ground := Ground.data }, { on := 30, ground := Ground.guard }], guard := some (30, true) }) (v := ?_) rfl (by kernel_rfl) (by kernel_rfl) (by kernel_rfl) (fun _ _ _ h => h) (Or.inl ⟨by rfl, ?_⟩) (by assumption) ?_
        rotate_left
        · intro w hSw; obtain ⟨⟨_, _, _, _, _, _, _, _⟩, ⟨_, _, _, _, _, _, _, _⟩⟩ := hSw; first | (go_simp; done) | (go_simp; with_reducible rfl)
        try simp only [Act.put, List.setIfInBounds_toArray, List.set_cons_zero, List.set_cons_succ]
        refine wpAnyH_take (i := 37) (oi := { dst := some 70, op := Op.pick (Operand.tmp 63) (Operand.tmp 69) (Operand.const (Value.bool false)), type := 4, pos := "law.go:79", after := #[{ on := 30, ground := Ground.data }, { on := 36, ground := Ground.data }], guard := none }) (v := ?_) rfl (by kernel_rfl) (by kernel_rfl) (by kernel_rfl) (fun _ _ _ h => h) (Or.inl ⟨by rfl, ?_⟩) (by assumption) ?_
        rotate_left
        · intro w hSw; obtain ⟨⟨_, _, _, _, _, _, _, _⟩, ⟨_, _, _, _, _, _, _, _⟩⟩ := hSw; first | (go_simp; done) | (go_simp; with_reducible rfl)
        try simp only [Act.put, List.setIfInBounds_toArray, List.set_cons_zero, List.set_cons_succ]
        refine wpAnyH_take (i := 38) (oi := { dst := some 2, op := Op.assign (Operand.tmp 70), type := 4, pos := "law.go:79", after := #[{ on := 37, ground := Ground.data }, { on := 32, ground := Ground.chain }, { on := 0, ground := Ground.phase }, { on := 1, ground := Ground.phase }, { on := 2, ground := Ground.phase }, { on := 3, ground := Ground.phase }, { on := 4, ground := Ground.phase }, { on := 5, ground := Ground.phase }, { on := 6, ground := Ground.phase }, { on := 7, ground := Ground.phase }, { on := 8, ground := Ground.phase }, { on := 9, ground := Ground.phase }, { on := 10, ground := Ground.phase }, { on := 11, ground := Ground.phase }, { on := 12, ground := Ground.phase }, { on := 13, ground := Ground.phase }, { on := 14, ground := Ground.phase }, { on := 15, ground := Ground.phase }, { on := 16, ground := Ground.phase }, { on := 17, ground := Ground.phase }, { on := 18, ground := Ground.phase }, { on := 19, ground := Ground.phase }, { on := 20, ground := Ground.phase }, { on := 21, ground := Ground.phase }, { on := 22, ground := Ground.phase }, { on := 23, ground := Ground.phase }, { on := 24, ground := Ground.phase }, { on := 25, ground := Ground.phase }, { on := 26, ground := Ground.phase }, { on := 27, ground := Ground.phase }, { on := 28, ground := Ground.phase }, { on := 29, ground := Ground.phase }, { on := 30, ground := Ground.phase }, { on := 31, ground := Ground.phase }, { on := 32, ground := Ground.phase }, { on := 33, ground := Ground.phase }, { on := 34, ground := Ground.phase }, { on := 35, ground := Ground.phase }, { on := 36, ground := Ground.phase }, { on := 37, ground := Ground.phase }], guard := none }) (v := ?_) rfl (by kernel_rfl) (by kernel_rfl) (by kernel_rfl) (fun _ _ _ h => h) (Or.inl ⟨by rfl, ?_⟩) (by assumption) ?_
        rotate_left
        · intro w hSw; obtain ⟨⟨_, _, _, _, _, _, _, _⟩, ⟨_, _, _, _, _, _, _, _⟩⟩ := hSw; first | (go_simp; done) | (go_simp; with_reducible rfl)
        try simp only [Act.put, List.setIfInBounds_toArray, List.set_cons_zero, List.set_cons_succ]
        refine wpAnyH_done (by kernel_rfl) ?_ _
        all_goals
          go_wp2
          go_ret
          exact ⟨rfl, C7.out.1.bel.trans (B12.mono C7.out.1.bel.size)⟩
      | false =>
        have q9 := E9.out rfl
        clear E9
        unfold TX at HJ
        go_wp2_with fail
        go_region_held3 (fun W => (W.cell? ⟨w.heap.size, 0, none⟩ = some (.int .i64 d.op) ∧ W.cell? ⟨w.heap.size, 1, none⟩ = some (.int .u64 (uv (d.q 0))) ∧ W.cell? ⟨w.heap.size, 2, none⟩ = some (.int .u64 (uv (d.q 1))) ∧ W.cell? ⟨w.heap.size, 3, none⟩ = some (.int .u64 (uv (d.q 2))) ∧ W.cell? ⟨w.heap.size, 4, none⟩ = some (.int .u64 (uv (d.q 3))) ∧ W.cell? ⟨w.heap.size, 5, none⟩ = some (.int .i64 d.lo) ∧ W.cell? ⟨w.heap.size, 6, none⟩ = some (.int .i64 d.hi) ∧ W.cell? ⟨w.heap.size, 7, none⟩ = some (.slice d.A d.n d.c)) ∧
            (W.cell? ⟨w5.heap.size, 0, none⟩ = some (.int .i64 d5.op) ∧ W.cell? ⟨w5.heap.size, 1, none⟩ = some (.int .u64 (uv (d5.q 0))) ∧ W.cell? ⟨w5.heap.size, 2, none⟩ = some (.int .u64 (uv (d5.q 1))) ∧ W.cell? ⟨w5.heap.size, 3, none⟩ = some (.int .u64 (uv (d5.q 2))) ∧ W.cell? ⟨w5.heap.size, 4, none⟩ = some (.int .u64 (uv (d5.q 3))) ∧ W.cell? ⟨w5.heap.size, 5, none⟩ = some (.int .i64 d5.lo) ∧ W.cell? ⟨w5.heap.size, 6, none⟩ = some (.int .i64 d5.hi) ∧ W.cell? ⟨w5.heap.size, 7, none⟩ = some (.slice d5.A d5.n d5.c)))
          (first | exact HJ.out _ (Below.refl _ _) | exact HJ.out _ (Below.refl _ _).drew | exact HJ.out _ (by assumption))
          (first
            | (go_at_call 19; refine (D8.out _ (by first | exact Below.refl _ _ | exact (Below.refl _ _).drew | assumption)).mono ?_; rintro e w8 ⟨rfl, hb⟩; have B8 : Below w7.heap.size w7 w8 := bel_then (by first | exact Below.refl _ _ | exact (Below.refl _ _).drew | assumption) hb; clear hb D8)
            | (go_at_call 21; refine (D9.out _ (by first | exact Below.refl _ _ | exact (Below.refl _ _).drew | assumption)).mono ?_; rintro e w9 ⟨d6, rfl, hv, hb⟩; have B9 : Below w7.heap.size w7 w9 := bel_then (by first | exact Below.refl _ _ | exact (Below.refl _ _).drew | assumption) hb; have V9 := Lib.hid hv.tr; clear hv; unfold TD.val; clear hb D9)
            | (go_at_call 13; refine (D10.out d6 _ V9.out (by first | exact Below.refl _ _ | exact (Below.refl _ _).drew | assumption)).mono ?_; rintro e w10 ⟨rfl, hb⟩; have B10 : Below w7.heap.size w7 w10 := bel_then (by first | exact Below.refl _ _ | exact (Below.refl _ _).drew | assumption) hb; clear hb D10)
            | (go_at_call 24; refine (D11.out _ (by first | exact Below.refl _ _ | exact (Below.refl _ _).drew | assumption)).mono ?_; rintro e w11 ⟨rfl, hb⟩; have B11 : Below w7.heap.size w7 w11 := bel_then (by first | exact Below.refl _ _ | exact (Below.refl _ _).drew | assumption) hb; clear hb D11)
            | (go_at_call 24; refine (D12.out _ (by first | exact Below.refl _ _ | exact (Below.refl _ _).drew | assumption)).mono ?_; rintro e w12 ⟨rfl, hb⟩; have B12 : Below w7.heap.size w7 w12 := bel_then (by first | exact Below.refl _ _ | exact (Below.refl _ _).drew | assumption) hb; clear hb D12)
            | fail)
        all_goals
          go_wp2
          go_ret
          exact ⟨rfl, C7.out.1.bel.trans (B12.mono C7.out.1.bel.size)⟩
end Go.Proofs.Ytkljagffccommaa
