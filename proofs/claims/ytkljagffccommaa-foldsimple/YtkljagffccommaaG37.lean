/- New terms, in rows of their own. What a change makes of each term of a list. No dot in a term. A row of terms laid behind a row of terms. gather: a list, and what terms put into it when they are made simple. A term laid into a row of the call's own. A row of terms whose tail is cleared. -/
import Derived.Test.YtkljagffccommaaG32
import Derived.Test.YtkljagffccommaaU2
import Derived.Test.YtkljagffccommaaT4
import Derived.Test.YtkljagffccommaaG27
import Derived.Laws.OwnMore
import Derived.Test.YtkljagffccommaaG29
import Derived.Lib.SliceRun
namespace Go.Proofs.Ytkljagffccommaa
open Go.RowKit
/-- a term of new memory, in rows of its own -/
def Wv (w : World) (t : Tm) (e : Ending) (w' : World) : Prop := ∃ d : TD, e = .returned d.val ∧ TV w' (Sn w.heap.size w') t d ∧ Below w.heap.size w w'
section
variable {w w' : World} {N M : Nat} {A : Option Addr} {c : Nat} {ds : List TD} {ts : List Tm} {t : Tm} {d : TD}
theorem TV.snk (h : TV w (Sn M w) t d) (hb : Below w.heap.size w w') : TV w' (Sn M w') t d := h.to fun k hk => ⟨⟨hk.1, Nat.lt_of_lt_of_le hk.2 hb.size⟩, fun hlt => hb.block k hlt⟩
theorem TV.snm (h : TV w (Sn M w) t d) (hM : N ≤ M) : TV w (Sn N w) t d := h.to fun k hk => ⟨⟨Nat.le_trans hM hk.1, hk.2⟩, fun _ => rfl⟩
theorem Kd.below (h : Kd w N A c ds ts) (hb : Below w.heap.size w w') : Kd w' N A c ds ts :=
  ⟨h.own.below hb, h.len, fun i t d h1 h2 => (h.el i t d h1 h2).to fun k hk => ⟨⟨⟨hk.1.1, Nat.lt_of_lt_of_le hk.1.2 hb.size⟩, hk.2⟩, fun hlt => hb.block k hlt⟩, h.blk⟩
theorem Kd.inV (h : Kd w N A c ds ts) (op : Int) (f : Nat → Bool) (q : Nat → BitVec 64) (lo hi : Int) (hq : IsK f q) (hn : ts.length ≤ 1048576) : TV w (Sn N w) (.mk op f lo hi ts) ⟨op, q, lo, hi, A, ds.length, c⟩ := by
  rw [h.len]
  refine .mk op f lo hi ts _ A c ds hq h.len hn (fun i t d h1 h2 => (h.el i t d h1 h2).to fun k hk => ⟨hk.1, fun _ => rfl⟩) fun h0 => ?_
  obtain ⟨b, e, hr⟩ := h.own.row (by rw [h.len]; exact h0)
  exact ⟨b, e, ⟨h.blk b (by rw [e]; rfl), h.own.lt (by rw [e]; rfl)⟩, hr⟩
end
theorem lt_set8 {w : World} {k b : Nat} {a0 a1 a2 a3 a4 a5 a6 a7 : Value} (h : b < w.heap.size) : b < (set8 w k a0 a1 a2 a3 a4 a5 a6 a7).heap.size := by rw [set8_size]; exact h
end Go.Proofs.Ytkljagffccommaa
namespace Go.Proofs.Ytkljagffccommaa
open Go.RowKit

theorem map_snoc {α β : Type} (g : α → β) (ks : List α) (i : Nat) (hi : i < ks.length) : (ks.take (i + 1)).map g = (ks.take i).map g ++ [g ks[i]] := by
  rw [← List.take_append_getElem hi, List.map_append]; rfl

/-- what each gives: a row of new terms -/
def Eac (w : World) (ts : List Tm) (e : Ending) (w' : World) : Prop := ∃ (A : Option Addr) (c : Nat) (ds : List TD), e = .returned (.slice A ds.length c) ∧ Kd w' w.heap.size A c ds ts ∧ Below w.heap.size w w'

set_option maxRecDepth 100000 in
set_option maxHeartbeats 4000000 in
theorem each_any (n : FuncId) (a b : Nat) (g : Tm → Tm) (A : Option Addr) (c : Nat) (ks : List Tm) (ds : List TD) (w : World)
    (hn : ∀ args w, (callFunc n args).run Try.prog w = .ok (.enter n args) w)
    (hc : ∀ (i : Nat) (t : Tm) (d : TD), ks[i]? = some t → ds[i]? = some d → ∀ W, Below w.heap.size w W → Calls Try.prog n #[d.val, .pointer (some ⟨a, 0, none⟩), .pointer (some ⟨b, 0, none⟩)] W (Wv W (g t)))
    (hr : RowAt w A ds) (hl : ds.length = ks.length) (h5 : ks.length ≤ 500) :
    Calls Try.prog 35 #[.slice A ks.length c, .func (.func n) #[] #[.pointer (some ⟨a, 0, none⟩), .pointer (some ⟨b, 0, none⟩)]] w (Eac w (ks.map g)) := by
  obtain ⟨m, hm⟩ : ∃ m, ks.length = m := ⟨_, rfl⟩
  rw [hm] at h5 ⊢
  have HC := Lib.hid hc; have HR := Lib.hid hr; have HL := Lib.hid hl; have HM := Lib.hid hm
  clear hc hr hl hm
  have hb0 : Hid (Below w.heap.size w w) := Below.refl _ _
  go_enter Try.func35, Try.ntmps35
  go_wp2_with fail
  go_loopw [5, 10] (fun o v wr => ∃ (i : Nat) (K : Option Addr) (ck : Nat) (ds' : List TD), i ≤ m ∧ o = .slice K ds'.length ck ∧ v = .int .i64 (i : Nat) ∧ Hid (Kd wr w.heap.size K ck ds' ((ks.take i).map g) ∧ Below w.heap.size w wr)) (fun _ v _ => m - (intOf v).toNat)
  case atStart => exact ⟨0, none, 0, [], Nat.zero_le _, rfl, rfl, ⟨by rw [List.take_zero]; exact Kd.nil _ _, hb0.out⟩⟩
  case round =>
    obtain ⟨i, K, ck, ds', hi1, rfl, rfl, hW⟩ := hrel
    have hdl : ds'.length ≤ 1048576 := by have h1 := hW.out.1.len; rw [List.length_map, List.length_take] at h1; omega
    by_cases hlt : i < m
    · have qi : (i : Int) < (m : Int) := by omega
      have hi2 : i < ks.length := by have := HM.out; omega
      have hi4 : i < ds.length := by have h1 := HL.out; omega
      obtain ⟨kb1, off1, rfl, hb1, hc1⟩ := HR.out (by omega)
      have hdt := List.getElem?_eq_getElem hi4
      obtain ⟨a0, a1, a2, a3, a4, a5, a6, a7⟩ := kid_cells hW.out.2 hb1 hc1 hdt
      have tk := Lib.hid (map_snoc g ks i hi2)
      have nb := below_new wr (.cells (ds[i]).cells 29)
      have wb := hW.out.2.trans (nb.mono hW.out.2.size)
      have D1 := Lib.hid (HC.out i _ _ (List.getElem?_eq_getElem hi2) hdt _ wb)
      have K1 := Lib.hid (hW.out.1.below nb)
      have B1 := Lib.hid wb
      have LT : Hid (∀ k, ow K = some k → k < wr.heap.size + 1) := fun k hk => by have := hW.out.1.own.lt hk; omega
      have wsz := hW.out.2.size
      generalize g ks[i] = kt at *
      generalize ds[i] = dt at *
      have q6 : IntKind.i64.wrap ((i : Int) + 1) = ((i + 1 : Nat) : Int) := by rw [IntWalk.i64_in _ (by omega)]; omega
      clear hc1 hi2 hi4 hb1 nb wb hW hdt
      unfold TD.cells at K1 B1 D1
      unfold TD.val at D1
      go_wp2_with fail
      refine D1.out.mono ?_
      rintro e w5 ⟨d5, rfl, hv5, hb5⟩
      have V5 := Lib.hid (hv5.snk (below_new w5 (.cells d5.cells 29)))
      have K5 := Lib.hid ((K1.out.below hb5).below (below_new w5 (.cells d5.cells 29)))
      have B5 := Lib.hid (B1.out.trans (hb5.mono B1.out.size))
      have sz5 : wr.heap.size + 1 ≤ w5.heap.size := by have := hb5.size; simp at this; omega
      clear D1 K1 B1 hb5 hv5 a0 a1 a2 a3 a4 a5 a6 a7
      unfold TD.val
      go_wp2_with (at_builtin; refine appT rfl (.tmp 14) (.tmp 18) rfl K ck ds' K5.out.own _ 1 d5 (TB.new w5 d5) hdl rfl rfl ?_)
      intro K6 c6 ds6 w6 hd6 ho6 hg6 hr6
      have K7 : Hid (Kd w6 w.heap.size K6 c6 ds6 ((ks.take (i + 1)).map g)) := by
        show Kd _ _ _ _ _ _
        rw [tk.out]
        exact K5.out.push (by simp; omega) (by have := V5.out; simp only [World.size_alloc] at this; exact this) (by omega) LT.out hd6.out ho6 hg6 hr6
      have B7 := Lib.hid ((B5.out.alloc B5.out.size (.cells d5.cells 29)).grown hg6 (by simp; omega) (fun k hk => K5.out.blk k hk))
      clear K5 B5 V5 ho6 hg6 hr6 hd6
      go_wp2_with fail
      go_roundw
      case rel => exact ⟨i + 1, K6, c6, ds6, by omega, rfl, by simp, ⟨K7.out, B7.out⟩⟩
      case measure => simp [intOf]; omega
    · have qi : ¬ (i : Int) < (m : Int) := by omega
      have e1 : ks.take i = ks := List.take_of_length_le (by have := HM.out; omega)
      rw [e1] at hW
      have H := Lib.hid hW.out
      clear hW e1
      go_wp2
      go_ret
      exact ⟨K, ck, ds', rfl, H.out.1, H.out.2⟩
end Go.Proofs.Ytkljagffccommaa
namespace Go.Proofs.Ytkljagffccommaa
open Go.RowKit

theorem dotsL_mem : ∀ (ks : List Tm), dotsL ks = 0 → ∀ k ∈ ks, dotsT k = 0
  | [], _, k, h => by cases h
  | a :: r, h, k, hk => by
    rw [dotsL] at h
    rcases List.mem_cons.1 hk with rfl | hk
    · omega
    · exact dotsL_mem r (by omega) k hk

set_option maxRecDepth 100000 in
set_option maxHeartbeats 4000000 in
theorem dots_any : ∀ (t : Tm) (d : TD) (w : World), TR w t d → Few t → dotsT t = 0 → Calls Try.prog 25 #[d.val] w fun e w' => e = .returned (.int .i64 0) ∧ Below w.heap.size w w' := by
  intro t
  induction t using Tm.ind with
  | h op f lo hi ks ih =>
  intro d w ht hf h0
  cases ht with
  | mk _ _ _ _ _ q A c ds hq hl hn hk hr =>
  have h500 := hf.len
  rw [dotsT] at h0
  have h3 : ¬ op = 3 := fun e => by rw [if_pos e] at h0; omega
  have e3 : (op == 3) = false := by rw [beq_eq_false_iff_ne]; exact h3
  have H0 := Lib.hid (dotsL_mem ks (by omega))
  obtain ⟨m, hm⟩ : ∃ m, ks.length = m := ⟨_, rfl⟩
  rw [hm] at hn h500
  have HC := Lib.hid ih; have HK := Lib.hid hk; have HR := Lib.hid hr; have HL := Lib.hid hl; have HM := Lib.hid hm; have HF := Lib.hid hf
  have T1 := Lib.hid (TB.new w ⟨op, q, lo, hi, A, m, c⟩)
  have B1 : Hid (Below w.heap.size w (w.alloc (.cells (TD.cells ⟨op, q, lo, hi, A, m, c⟩) 29))) := below_new _ _
  obtain ⟨⟨x0, x1, x2, x3, x4, x5, x6, x7⟩, _⟩ := T1.out.all
  simp only [hm]
  clear ih hk hr hl hm hf h0 hq h3
  unfold TD.val
  unfold TD.cells at *
  go_enter Try.func25, Try.ntmps25
  go_wp2_with fail
  clear x0 x1 x2 x3 x4 x5 x6 x7
  go_loopw [3, 14] (fun o v wr => ∃ i : Nat, i ≤ m ∧ o = .int .i64 0 ∧ v = .int .i64 (i : Nat) ∧ Hid (Below w.heap.size w wr)) (fun _ v _ => m - (intOf v).toNat)
  case atStart => exact ⟨0, Nat.zero_le _, rfl, rfl, B1⟩
  case round =>
    obtain ⟨i, hi1, rfl, rfl, hW⟩ := hrel
    clear B1 T1
    by_cases hlt : i < m
    · have qi : (i : Int) < (m : Int) := by omega
      have hi2 : i < ks.length := by have := HM.out; omega
      have hi4 : i < ds.length := by have h1 := HL.out; have := HM.out; omega
      obtain ⟨kb1, off1, rfl, hb1, hc1⟩ := HR.out (by omega)
      have hdt := List.getElem?_eq_getElem hi4
      obtain ⟨a0, a1, a2, a3, a4, a5, a6, a7⟩ := kid_cells hW.out hb1 hc1 hdt
      have nb := below_new wr (.cells (ds[i]).cells 29)
      have wb := hW.out.trans (nb.mono hW.out.size)
      have hmem := List.getElem_mem hi2
      have D1 := Lib.hid (HC.out _ hmem _ _ ((HK.out i _ _ (List.getElem?_eq_getElem hi2) hdt).keeps wb) (HF.out.kid hmem) (H0.out _ hmem))
      have B1 := Lib.hid wb
      have q6 : IntKind.i64.wrap ((i : Int) + 1) = ((i + 1 : Nat) : Int) := by rw [IntWalk.i64_in _ (by omega)]; omega
      have wsz := hW.out.size
      generalize ds[i] = dt at *
      have T5 := Lib.hid (TB.new wr dt)
      obtain ⟨⟨y0, y1, y2, y3, y4, y5, y6, y7⟩, _⟩ := T5.out.all
      clear hc1 hi2 hi4 hb1 nb wb hW hdt hmem T5
      unfold TD.cells at *
      unfold TD.val at D1
      go_wp2_with fail
      refine D1.out.mono ?_
      rintro e w5 ⟨rfl, hb5⟩
      have B5 := Lib.hid (B1.out.trans (hb5.mono B1.out.size))
      clear D1 B1 hb5 a0 a1 a2 a3 a4 a5 a6 a7 y0 y1 y2 y3 y4 y5 y6 y7
      go_wp2_with fail
      go_roundw
      case rel => exact ⟨i + 1, by omega, rfl, by simp, B5⟩
      case measure => simp [intOf]; omega
    · have qi : ¬ (i : Int) < (m : Int) := by omega
      go_wp2
      go_ret
      exact ⟨rfl, hW.out⟩
end Go.Proofs.Ytkljagffccommaa
namespace Go.Proofs.Ytkljagffccommaa
open Go.RowKit

theorem tcs_one (es : List TD) (u : Value) (h : u ∈ tcs es) : u.oneCell' = true := by
  unfold tcs at h
  obtain ⟨d, _, hu⟩ := List.mem_flatMap.1 h
  simp [TD.cells] at hu
  rcases hu with rfl | rfl | rfl | rfl | rfl | rfl | rfl | rfl <;> rfl

set_option maxRecDepth 100000 in
/-- a row of terms laid behind a row of terms; the first may be no row at all -/
theorem appTs {ops : Array Oper} {rest : List Oper} {o : Oper} {a : Act} {Q : Exit → Act → World → Prop} {w : World} (hgd : o.guard = none) (s x : Operand)
    (ho : o.op = .call { callee := .builtin .append, args := #[s, x], argTypes := #[27, 27] })
    (A : Option Addr) (c : Nat) (ds : List TD) (hown : OwnT w A c ds) (B : Option Addr) (c2 : Nat) (es : List TD) (hB : B = none → es = [] ∧ c2 = 0) (hz : RowAt w B es) (lx : ds.length + es.length ≤ 1048576)
    (hs : a.eval s = .slice A ds.length c) (hxx : a.eval x = .slice B es.length c2)
    (h : ∀ A' c' ds' w', Hid (ds' = ds ++ es) → OwnT w' A' c' ds' → w.grownBy w' (ow A) → Nr w A A' → wpList Try.prog ops Q rest (a.put o.dst (.slice A' ds'.length c')) w') :
    wpList Try.prog ops Q (o :: rest) a w := by
  obtain ⟨i0, z0, hi0, hz0, hz1, hz2, hz3⟩ := info29_parts
  cases B with
  | none =>
    obtain ⟨rfl, rfl⟩ := hB rfl
    refine wpList_plain hgd fun K hK => ?_
    have hr := run_append_owned_none (P := Try.prog) w 0 27 o.type 29 i0 8 Try.underlying27 hi0 (.slice A ds.length c) ds.length (tcs ds) hown
    unfold Oper.wp execOp
    simp only [ho, resolve, invoke, builtin, Sem.run_bind, Sem.run_pure, Result.andThen_ok, List.map_toArray, List.map_cons, List.map_nil, hs, hxx, List.length_nil, hr]
    have := h A c ds w (by show ds = _; rw [List.append_nil]) hown ⟨rfl, rfl, rfl, Nat.le_refl _, fun _ _ _ => rfl⟩ (.inl rfl)
    exact hK _ _ this
  | some ad =>
    refine wpList_append_own_at _ hgd s x 27 ho 0 29 i0 z0 8 80 Try.underlying27 hi0 hz0 hz1 hz2 hz3 (by omega) _ ds.length (tcs ds) hs hown ad es.length c2 (tcs es) hxx (len_tcs es) ?_ (tcs_one es) (by unfold maxLen; omega) (by omega) (Nat.zero_le _) ?_
    · intro j u hj
      have hj8 : j < es.length * 8 := by
        rcases Nat.lt_or_ge j (es.length * 8) with h | h
        · exact h
        · rw [List.getElem?_eq_none (by rw [len_tcs]; exact h)] at hj; cases hj
      have hi : j / 8 < es.length := by omega
      obtain ⟨b, off, e, hlt, hc⟩ := hz (by omega)
      obtain rfl : ad = ⟨b, off, none⟩ := by injection e
      clear e
      have hd := List.getElem?_eq_getElem hi
      have e1 := hc (j / 8) _ hd (j % 8) (by omega)
      have e2 := tcs_at es (j / 8) (j % 8) _ hd (by omega)
      have ej : j / 8 * 8 + j % 8 = j := by omega
      rw [ej] at e2
      rw [show off + j / 8 * 8 + j % 8 = off + j by omega, ← e2, hj] at e1
      have hadd : (⟨b, off, none⟩ : Addr).add j = ⟨b, off + j, none⟩ := by unfold Addr.add; split <;> simp_all
      rw [hadd]
      exact e1
    · intro v' w' hown' hgrow _ hblk
      have hown2 : w'.ownsRow 0 29 8 v' (ds ++ es).length (tcs (ds ++ es)) := by
        rw [List.length_append, tcs_app]; exact hown'
      rcases hown2.2 with ⟨e, h0⟩ | ⟨g, cap, cur, e, _⟩
      · rw [List.length_append] at h0
        have h1 : ds = [] := List.eq_nil_of_length_eq_zero (by omega)
        have h2 : es = [] := List.eq_nil_of_length_eq_zero (by omega)
        subst h1; subst h2
        have := h none 0 ([] ++ []) w' rfl (by rw [e] at hown2; exact hown2) (by rw [← ow_own A 0 c]; exact hgrow) (by
          rw [e, ow_own, ow_own] at hblk
          rcases hblk with e' | e'
          · exact .inl e'
          · cases e')
        rw [e]
        exact this
      · subst e
        have := h (some ⟨g, 0, none⟩) cap (ds ++ es) w' rfl hown2 (by rw [← ow_own A ds.length c]; exact hgrow) (by
          rw [ow_own, ow_own] at hblk
          rcases hblk with e' | e'
          · exact .inl e'
          · exact .inr ⟨_, e', Nat.le_refl _⟩)
        exact this

section
variable {w w' : World} {N : Nat} {A A' : Option Addr} {c c' : Nat} {ds ds' es : List TD} {ts us : List Tm}
/-- a row of terms grows by terms that lie in blocks of their own -/
theorem Kd.pushs (h : Kd w N A c ds ts) (hN : N ≤ w.heap.size) (hl : es.length = us.length) (hv : ∀ (i : Nat) (t : Tm) (d : TD), us[i]? = some t → es[i]? = some d → TV w (fun k => Sn N w k ∧ some k ≠ ow A) t d)
    (hd : ds' = ds ++ es) (ho : OwnT w' A' c' ds') (hg : w.grownBy w' (ow A)) (hr : Nr w A A') : Kd w' N A' c' ds' (ts ++ us) := by
  subst hd
  have ne' : ∀ k, k < w.heap.size → some k ≠ ow A → some k ≠ ow A' := fun k hk hne e => by
    rcases hr with e2 | ⟨j, e2, hj⟩
    · exact hne (by rw [← e2]; exact e)
    · rw [e2] at e; injection e with e; omega
  refine ⟨ho, by simp [h.len, hl], fun i t' d' h1 h2 => ?_, fun k hk => ?_⟩
  · have hx : TV w (fun k => Sn N w k ∧ some k ≠ ow A) t' d' := by
      rcases Nat.lt_or_ge i ts.length with hi | hi
      · rw [List.getElem?_append_left hi] at h1
        rw [List.getElem?_append_left (by rw [h.len]; exact hi)] at h2
        exact h.el i t' d' h1 h2
      · rw [List.getElem?_append_right hi] at h1
        rw [List.getElem?_append_right (by rw [h.len]; exact hi), h.len] at h2
        exact hv _ t' d' h1 h2
    exact hx.to fun k hk => ⟨⟨⟨hk.1.1, Nat.lt_of_lt_of_le hk.1.2 hg.size⟩, ne' k hk.1.2 hk.2⟩, fun hlt => hg.block k hlt hk.2⟩
  · rcases hr with e2 | ⟨j, e2, hj⟩
    · exact h.blk k (by rw [← e2]; exact hk)
    · rw [e2] at hk
      injection hk with hk
      subst hk
      omega
end
end Go.Proofs.Ytkljagffccommaa
namespace Go.Proofs.Ytkljagffccommaa
open Go.RowKit

/-- the two functions that call one another, in their cells -/
def SF (w : World) (pg ps : Nat) : Prop :=
  w.cell? ⟨pg, 0, none⟩ = some (.func (.func 39) #[] #[.pointer (some ⟨pg, 0, none⟩), .pointer (some ⟨ps, 0, none⟩)]) ∧ w.cell? ⟨ps, 0, none⟩ = some (.func (.func 40) #[] #[.pointer (some ⟨pg, 0, none⟩), .pointer (some ⟨ps, 0, none⟩)])
/-- what lies below N is as it was -/
def Keep (N : Nat) (w w' : World) : Prop := w.heap.size ≤ w'.heap.size ∧ ∀ k, k < N → w'.heap[k]? = w.heap[k]?
theorem SF.keep {w w' : World} {pg ps N : Nat} (h : SF w pg ps) (hk : Keep N w w') (hg : pg < N) (hs : ps < N) : SF w' pg ps :=
  ⟨(World.cell?_of_block (hk.2 pg hg)).trans h.1, (World.cell?_of_block (hk.2 ps hs)).trans h.2⟩
def gO (op : Int) (k : Tm) : List Tm := if op = 6 then (sPr k).g6 else (sPr k).g7
theorem gO_same (op : Int) (hop : op = 6 ∨ op = 7) (k : Tm) (h : opOf k = op) : gO op k = (kidsOf k).flatMap (gO op) := by
  obtain ⟨o, f, lo, hi, ks⟩ := k
  have h' : o = op := h
  subst h'
  unfold gO
  rw [sPr, sPrL_map]
  rcases hop with rfl | rfl
  · simp [proP, kidsOf, List.flatMap_map]
  · simp [proP, kidsOf, List.flatMap_map]
theorem gO_other (op : Int) (hop : op = 6 ∨ op = 7) (k : Tm) (h : ¬ opOf k = op) : gO op k = spl op (sPr k).s := by
  obtain ⟨o, f, lo, hi, ks⟩ := k
  have h' : ¬ o = op := h
  unfold gO
  rw [sPr]
  rcases hop with rfl | rfl
  · simp [proP, h']
  · simp [proP, h']
/-- what gather gives -/
def Gp (w : World) (N : Nat) (A : Option Addr) (ts : List Tm) (e : Ending) (w' : World) : Prop :=
  ∃ A' c' ds', e = .returned (.slice A' (List.length ds') c') ∧ Kd w' N A' c' ds' ts ∧ w.grownBy w' (ow A) ∧ Nr w A A'
/-- the contract of the function that makes a term simple, at one term -/
def Sc (N pg ps : Nat) (t : Tm) : Prop := ∀ (d : TD) (W : World), N ≤ W.heap.size → TS W (fun k => k < N) t d → SF W pg ps → Calls Try.prog 40 #[d.val, .pointer (some ⟨pg, 0, none⟩), .pointer (some ⟨ps, 0, none⟩)] W (Wv W (sPr t).s)
/-- the contract of gather, at a list of kids -/
def Gc (N pg ps : Nat) (op : Int) (ks : List Tm) : Prop := ∀ (M : Nat) (A : Option Addr) (c : Nat) (ds : List TD) (lts : List Tm) (B : Option Addr) (c2 : Nat) (es : List TD) (W : World), N ≤ M → M ≤ W.heap.size → Kd W M A c ds lts → RowIn W (fun k => k < N) B es → es.length = ks.length →
  (∀ (i : Nat) (t : Tm) (d : TD), ks[i]? = some t → es[i]? = some d → TS W (fun k => k < N) t d) → lts.length + (ks.flatMap (gO op)).length ≤ 500000 → SF W pg ps →
  Calls Try.prog 39 #[.slice A ds.length c, .int .i64 op, .slice B ks.length c2, .pointer (some ⟨pg, 0, none⟩), .pointer (some ⟨ps, 0, none⟩)] W (Gp W M A (lts ++ ks.flatMap (gO op)))

/-- what the loop carries -/
structure Gl (w wr : World) (N : Nat) (A A1 : Option Addr) (c1 : Nat) (ds1 : List TD) (ts : List Tm) : Prop where
  kd : Kd wr N A1 c1 ds1 ts
  gr : w.grownBy wr (ow A)
  nr : Nr w A A1
theorem grown_trans {w w1 w2 : World} {A A1 : Option Addr} (h : w.grownBy w1 (ow A)) (hn : Nr w A A1) (h2 : w1.grownBy w2 (ow A1)) : w.grownBy w2 (ow A) :=
  ⟨h2.os.trans h.os, h2.tape.trans h.tape, h2.output.trans h.output, Nat.le_trans h.size h2.size, fun k hk hne => (h2.block k (Nat.lt_of_lt_of_le hk h.size) (by
    rcases hn with e | ⟨j, e, hj⟩
    · rw [e]; exact hne
    · rw [e]; intro e2; injection e2 with e2; omega)).trans (h.block k hk hne)⟩
theorem nr_trans {w w1 : World} {A A1 A2 : Option Addr} (h : w.heap.size ≤ w1.heap.size) (hn : Nr w A A1) (h2 : Nr w1 A1 A2) : Nr w A A2 := by
  rcases h2 with e | ⟨j, e, hj⟩
  · rcases hn with e1 | ⟨j, e1, hj⟩
    · exact .inl (e.trans e1)
    · exact .inr ⟨j, e.trans e1, hj⟩
  · exact .inr ⟨j, e, by omega⟩
theorem grown_below {w w1 w2 : World} {A : Option Addr} (h : w.grownBy w1 (ow A)) (hb : Below w1.heap.size w1 w2) : w.grownBy w2 (ow A) :=
  ⟨hb.os.trans h.os, hb.tape.trans h.tape, hb.output.trans h.output, Nat.le_trans h.size hb.size, fun k hk hne => (hb.block k (Nat.lt_of_lt_of_le hk h.size)).trans (h.block k hk hne)⟩
theorem Gl.keep {w wr : World} {N : Nat} {A A1 : Option Addr} {c c1 : Nat} {ds ds1 : List TD} {ts lts : List Tm} {M : Nat} (h : Gl w wr M A A1 c1 ds1 ts) (hNM : N ≤ M) (hN : M ≤ w.heap.size) (hk : Kd w M A c ds lts) : Keep N w wr :=
  ⟨h.gr.size, fun k hk' => h.gr.block k (by omega) fun e => by have := hk.blk k e.symm; omega⟩
theorem Gl.to {w wr w' : World} {N : Nat} {A A1 : Option Addr} {c1 : Nat} {ds1 : List TD} {ts : List Tm} (h : Gl w wr N A A1 c1 ds1 ts) (hb : Below wr.heap.size wr w') : Gl w w' N A A1 c1 ds1 ts :=
  ⟨h.kd.below hb, grown_below h.gr hb, h.nr⟩
end Go.Proofs.Ytkljagffccommaa
namespace Go.Proofs.Ytkljagffccommaa
open Go.RowKit

/-- eight cells written, from e on -/
def putT (w : World) (b e : Nat) (v : TD) : World :=
  (((((((w.setCell ⟨b, e, none⟩ (.int .i64 v.op)).setCell ⟨b, e + 1, none⟩ (.int .u64 (uv (v.q 0)))).setCell ⟨b, e + 2, none⟩ (.int .u64 (uv (v.q 1)))).setCell ⟨b, e + 3, none⟩ (.int .u64 (uv (v.q 2)))).setCell ⟨b, e + 4, none⟩ (.int .u64 (uv (v.q 3)))).setCell ⟨b, e + 5, none⟩ (.int .i64 v.lo)).setCell ⟨b, e + 6, none⟩ (.int .i64 v.hi)).setCell ⟨b, e + 7, none⟩ (.slice v.A v.n v.c)
theorem tcs_set (v : TD) : ∀ (D : List TD) (i : Nat), i < D.length →
    (((((((((tcs D).set (i * 8) (.int .i64 v.op)).set (i * 8 + 1) (.int .u64 (uv (v.q 0)))).set (i * 8 + 2) (.int .u64 (uv (v.q 1)))).set (i * 8 + 3) (.int .u64 (uv (v.q 2)))).set (i * 8 + 4) (.int .u64 (uv (v.q 3)))).set (i * 8 + 5) (.int .i64 v.lo)).set (i * 8 + 6) (.int .i64 v.hi)).set (i * 8 + 7) (.slice v.A v.n v.c)) = tcs (D.set i v)
  | [], i, h => by simp at h
  | d :: r, 0, _ => by simp [tcs, TD.cells]
  | d :: r, i + 1, h => by
    have ih := tcs_set v r i (by simpa using h)
    have e : tcs (d :: r) = d.cells.toList ++ tcs r := rfl
    have e2 : tcs ((d :: r).set (i + 1) v) = d.cells.toList ++ tcs (r.set i v) := rfl
    have hs : ∀ (l : List Value) (k : Nat) (x : Value), (d.cells.toList ++ l).set (k + 8) x = d.cells.toList ++ l.set k x := fun l k x => by
      rw [List.set_append_right _ _ (by simp [TD.cells])]; simp [TD.cells]
    rw [e, e2, ← ih]
    rw [show (i + 1) * 8 = i * 8 + 8 by omega, show i * 8 + 8 + 1 = i * 8 + 1 + 8 by omega, show i * 8 + 8 + 2 = i * 8 + 2 + 8 by omega, show i * 8 + 8 + 3 = i * 8 + 3 + 8 by omega, show i * 8 + 8 + 4 = i * 8 + 4 + 8 by omega, show i * 8 + 8 + 5 = i * 8 + 5 + 8 by omega, show i * 8 + 8 + 6 = i * 8 + 6 + 8 by omega, show i * 8 + 8 + 7 = i * 8 + 7 + 8 by omega]
    rw [hs, hs, hs, hs, hs, hs, hs, hs]
theorem grown_same {w w1 w2 : World} {g : Nat} (h : w.grownBy w1 (some g)) (h2 : w1.grownBy w2 (some g)) : w.grownBy w2 (some g) :=
  ⟨h2.os.trans h.os, h2.tape.trans h.tape, h2.output.trans h.output, Nat.le_trans h.size h2.size, fun k hk hne => (h2.block k (Nat.lt_of_lt_of_le hk h.size) hne).trans (h.block k hk hne)⟩
theorem OwnT.put {w : World} {b c : Nat} {D : List TD} (h : OwnT w (some ⟨b, 0, none⟩) c D) (i : Nat) (hi : i < D.length) (v : TD) : OwnT (putT w b (i * 8) v) (some ⟨b, 0, none⟩) c (D.set i v) ∧ w.grownBy (putT w b (i * 8) v) (some b) := by
  unfold OwnT at h ⊢
  have s0 := World.ownsRow.stored h (i * 8) (.int .i64 v.op)
  have s1 := World.ownsRow.stored s0.1 (i * 8 + 1) (.int .u64 (uv (v.q 0)))
  have s2 := World.ownsRow.stored s1.1 (i * 8 + 2) (.int .u64 (uv (v.q 1)))
  have s3 := World.ownsRow.stored s2.1 (i * 8 + 3) (.int .u64 (uv (v.q 2)))
  have s4 := World.ownsRow.stored s3.1 (i * 8 + 4) (.int .u64 (uv (v.q 3)))
  have s5 := World.ownsRow.stored s4.1 (i * 8 + 5) (.int .i64 v.lo)
  have s6 := World.ownsRow.stored s5.1 (i * 8 + 6) (.int .i64 v.hi)
  have s7 := World.ownsRow.stored s6.1 (i * 8 + 7) (.slice v.A v.n v.c)
  refine ⟨?_, grown_same (grown_same (grown_same (grown_same (grown_same (grown_same (grown_same s0.2 s1.2) s2.2) s3.2) s4.2) s5.2) s6.2) s7.2⟩
  have := s7.1
  rw [tcs_set v D i hi] at this
  rw [List.length_set]
  exact this
/-- a term laid into such a row, in blocks of its own -/
theorem Kd.put {w : World} {N b c : Nat} {D : List TD} {T : List Tm} (h : Kd w N (some ⟨b, 0, none⟩) c D T) (i : Nat) (hi : i < D.length) (t : Tm) (v : TD) (hv : TV w (fun k => Sn N w k ∧ some k ≠ ow (some ⟨b, 0, none⟩)) t v) :
    Kd (putT w b (i * 8) v) N (some ⟨b, 0, none⟩) c (D.set i v) (T.set i t) ∧ w.grownBy (putT w b (i * 8) v) (some b) := by
  obtain ⟨ho, hg⟩ := h.own.put i hi v
  refine ⟨⟨ho, by simp [h.len], fun j t' d' h1 h2 => ?_, h.blk⟩, hg⟩
  have hx : TV w (fun k => Sn N w k ∧ some k ≠ ow (some ⟨b, 0, none⟩)) t' d' := by
    by_cases e : i = j
    · subst e
      rw [List.getElem?_set_self (by rw [← h.len]; exact hi)] at h1
      rw [List.getElem?_set_self hi] at h2
      injection h1 with h1; injection h2 with h2
      subst h1; subst h2; exact hv
    · rw [List.getElem?_set_ne e] at h1 h2
      exact h.el j t' d' h1 h2
  exact hx.to fun k hk => ⟨⟨⟨hk.1.1, Nat.lt_of_lt_of_le hk.1.2 hg.size⟩, hk.2⟩, fun hlt => hg.block k hlt hk.2⟩
end Go.Proofs.Ytkljagffccommaa
namespace Go.Proofs.Ytkljagffccommaa
open Go.RowKit

theorem tcs_take (D : List TD) (k : Nat) : (tcs D).take (k * 8) = tcs (D.take k) := by
  induction D generalizing k with
  | nil => simp [tcs]
  | cons d r ih =>
    cases k with
    | zero => simp [tcs]
    | succ k =>
      have e : tcs (d :: r) = d.cells.toList ++ tcs r := rfl
      have e2 : tcs ((d :: r).take (k + 1)) = d.cells.toList ++ tcs (r.take k) := rfl
      rw [e, e2, ← ih k, List.take_append, show (k + 1) * 8 - d.cells.toList.length = k * 8 by simp [TD.cells]; omega, List.take_of_length_le (by simp [TD.cells]; omega)]
theorem OwnT.cut {w : World} {b c : Nat} {D : List TD} (h : OwnT w (some ⟨b, 0, none⟩) c D) (k : Nat) (hk : k ≤ D.length) : OwnT w (some ⟨b, 0, none⟩) c (D.take k) := by
  unfold OwnT at h ⊢
  have hl : (D.take k).length = k := by rw [List.length_take]; omega
  rw [hl]
  rcases h.2 with ⟨h', _⟩ | ⟨g, cap, cur, h', hb, hg, hnc, hcm, hcs, htake⟩
  · simp at h'
  · simp only [Value.slice.injEq, Option.some.injEq, Addr.mk.injEq, and_true, true_and] at h'
    obtain ⟨rfl, rfl⟩ := h'
    refine ⟨by rw [len_tcs, hl], .inr ⟨b, c, cur, rfl, hb, hg, by omega, hcm, hcs, ?_⟩⟩
    rw [← tcs_take, ← htake, List.take_take]
    congr 1
    omega
theorem own_tail {w : World} {b c n : Nat} {xs : List Value} : ∀ (vs : List Value) (o : Nat) (w : World), w.ownsRow 0 29 8 (.slice (some ⟨b, 0, none⟩) n c) n xs → n * 8 ≤ o →
    (w.setCells b o vs).ownsRow 0 29 8 (.slice (some ⟨b, 0, none⟩) n c) n xs ∧ w.grownBy (w.setCells b o vs) (some b)
  | [], o, w, h, _ => ⟨h, rfl, rfl, rfl, Nat.le_refl _, fun _ _ _ => rfl⟩
  | v :: vs, o, w, h, ho => by
    have s := World.ownsRow.stored h o v
    rw [List.set_eq_of_length_le (by rw [h.1]; exact ho)] at s
    have r := own_tail (w := w) vs (o + 1) _ s.1 (by omega)
    exact ⟨r.1, grown_same s.2 r.2⟩
/-- the tail of a row of terms, cleared -/
theorem run_clear_terms (w : World) (b o n c : Nat) (hn : 0 < n) (hc : ∀ j, j < n * 8 → (w.cell? ⟨b, o + j, none⟩).isSome = true) (hf : ∀ j, j < n * 8 → w.frozen? ⟨b, o + j, none⟩ = false) :
    ∃ L : List Value, ∀ ty, (Builtin.clear_ #[27] ty #[.slice (some ⟨b, o, none⟩) n c]).run Try.prog w = .ok (.tuple #[]) (w.setCells b o L) := by
  obtain ⟨z, hv, hz⟩ : ∃ z : Value, (∀ w, (zeroValue 29).run Try.prog w = .ok z w) ∧ z.cells = #[.int .i64 0, .int .u64 0, .int .u64 0, .int .u64 0, .int .u64 0, .int .i64 0, .int .i64 0, .slice none 0 0] :=
    ⟨.agg #[.int .i64 0, .int .u64 0, .int .u64 0, .int .u64 0, .int .u64 0, .int .i64 0, .int .i64 0, .slice none 0 0], fun w => by kernel_rfl, rfl⟩
  obtain ⟨L, eL⟩ : ∃ L, (Builtin.zeroCells z.cells n).toList = L := ⟨_, rfl⟩
  have hL : L.length = n * 8 := by rw [← eL, hz]; simp [Builtin.zeroCells]
  have hone : ∀ v ∈ L, v.oneCell' = true := by
    intro v hv
    rw [← eL, hz] at hv
    simp only [Builtin.zeroCells, Array.toList_map, List.mem_map] at hv
    obtain ⟨i, _, rfl⟩ := hv
    have h8 : i % 8 < 8 := by omega
    show (#[Value.int .i64 0, .int .u64 0, .int .u64 0, .int .u64 0, .int .u64 0, .int .i64 0, .int .i64 0, .slice none 0 0][i % 8]!).oneCell' = true
    generalize i % 8 = r at h8
    have : r = 0 ∨ r = 1 ∨ r = 2 ∨ r = 3 ∨ r = 4 ∨ r = 5 ∨ r = 6 ∨ r = 7 := by omega
    rcases this with rfl | rfl | rfl | rfl | rfl | rfl | rfl | rfl <;> rfl
  have hst := run_storeCells_cells (P := Try.prog) b o L 0 w (by rw [hL]; simpa using hc) (by rw [hL]; simpa using hf) hone
  simp only [Nat.add_zero] at hst
  obtain ⟨m, rfl⟩ : ∃ m, n = m + 1 := ⟨n - 1, by omega⟩
  refine ⟨L, fun ty => ?_⟩
  simp [Builtin.clear_, run_underlying Try.underlying27, hv, eL, hst]
end Go.Proofs.Ytkljagffccommaa
