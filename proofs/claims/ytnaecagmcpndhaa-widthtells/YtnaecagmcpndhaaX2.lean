/- Terms in blocks of a set, wherever they lie; a row of such terms under way. -/
import Derived.Test.YtnaecagmcpndhaaX1
import Derived.Deep.AppendLies
import Derived.Deep.RegionLaw
namespace Go.Proofs.Ytnaecagmcpndhaa
open Go.RowKit
/-- a row of terms lies there, in a block of S -/
def RowIn (w : World) (S : Nat → Prop) (A : Option Addr) (ds : List TD) : Prop := 0 < ds.length → ∃ b off, A = some ⟨b, off, none⟩ ∧ S b ∧ b < w.heap.size ∧ ∀ (i : Nat) (d : TD), ds[i]? = some d → ∀ j, j < 8 → w.cell? ⟨b, off + i * 8 + j, none⟩ = d.cells[j]?
/-- cells tell a term, wherever they lie, in blocks of S alone -/
inductive TS (w : World) (S : Nat → Prop) : Tm → TD → Prop
  | mk (op : Int) (f : Nat → Bool) (lo hi : Int) (kids : List Tm) (q : Nat → BitVec 64) (A : Option Addr) (c : Nat) (ds : List TD)
      (hq : IsK f q) (hl : ds.length = kids.length) (hn : kids.length ≤ 9223372036854775807) (hk : ∀ (i : Nat) (t : Tm) (d : TD), kids[i]? = some t → ds[i]? = some d → TS w S t d)
      (hr : RowIn w S A ds) : TS w S (.mk op f lo hi kids) ⟨op, q, lo, hi, A, kids.length, c⟩
section
variable {w w' w'' : World} {S S' : Nat → Prop} {t : Tm} {d : TD} {N M : Nat} {A A' : Option Addr} {c c' : Nat} {ds ds' : List TD} {ts : List Tm}
theorem TS.tr (h : TS w S t d) : TR w t d := by
  induction h with
  | mk op f lo hi kids q A c ds hq hl hn hk hr ih =>
    refine .mk op f lo hi kids q A c ds hq hl hn ih fun h0 => ?_
    obtain ⟨b, off, e, _, hlt, hc⟩ := hr h0
    exact ⟨b, off, e, hlt, hc⟩
theorem TR.inS (h : TR w t d) : TS w (fun b => b < w.heap.size) t d := by
  induction h with
  | mk op f lo hi kids q A c ds hq hl hn hk hr ih =>
    refine .mk op f lo hi kids q A c ds hq hl hn ih fun h0 => ?_
    obtain ⟨b, off, e, hlt, hc⟩ := hr h0
    exact ⟨b, off, e, hlt, hlt, hc⟩
theorem TS.to (h : TS w S t d) (hsz : w.heap.size ≤ w'.heap.size) (hs : ∀ k, S k → k < w.heap.size → S' k ∧ w'.heap[k]? = w.heap[k]?) : TS w' S' t d := by
  induction h with
  | mk op f lo hi kids q A c ds hq hl hn hk hr ih =>
    refine .mk op f lo hi kids q A c ds hq hl hn ih fun h0 => ?_
    obtain ⟨b, off, e, hb, hlt, hc⟩ := hr h0
    refine ⟨b, off, e, (hs b hb hlt).1, Nat.lt_of_lt_of_le hlt hsz, fun i d hd j hj => ?_⟩
    rw [World.cell?_of_block (a := ⟨b, off + i * 8 + j, none⟩) (hs b hb hlt).2]
    exact hc i d hd j hj
theorem TS.keeps (h : TS w S t d) (hb : Below w.heap.size w w') : TS w' S t d := h.to hb.size fun k hk hlt => ⟨hk, hb.block k hlt⟩
/-- old blocks, and those from one on -/
def On (N M : Nat) : Nat → Prop := fun k => k < N ∨ M ≤ k
/-- a row of terms that was made from block M on; its terms lie in old blocks or in new ones, never in the row's own -/
structure Kw (w : World) (N M : Nat) (A : Option Addr) (c : Nat) (ds : List TD) (ts : List Tm) : Prop where
  own : OwnT w A c ds
  len : ds.length = ts.length
  el : ∀ (i : Nat) (t : Tm) (d : TD), ts[i]? = some t → ds[i]? = some d → TS w (fun k => On N M k ∧ some k ≠ ow A) t d
  blk : ∀ k, ow A = some k → M ≤ k
theorem Kw.nil (w : World) (N M : Nat) : Kw w N M none 0 [] [] := ⟨ownt_nil w, rfl, fun i t d h => by simp at h, fun k h => by cases h⟩
theorem Kw.below (h : Kw w N M A c ds ts) (hb : Below w.heap.size w w') : Kw w' N M A c ds ts := ⟨h.own.below hb, h.len, fun i t d h1 h2 => (h.el i t d h1 h2).keeps hb, h.blk⟩
theorem Kw.to (h : Kw w N M A c ds ts) (hsz : w.heap.size ≤ w'.heap.size) (hs : ∀ k, On N M k → k < w.heap.size → w'.heap[k]? = w.heap[k]?) : Kw w' N M A c ds ts :=
  ⟨h.own.blocks fun k hk => hs k (.inr (h.blk k hk)) (h.own.lt hk), h.len, fun i t d h1 h2 => (h.el i t d h1 h2).to hsz fun k hk hlt => ⟨hk, hs k hk.1 hlt⟩, h.blk⟩
theorem Kw.push {L : Nat} (h : Kw w N M A c ds ts) (hN : N ≤ M) (hM : M ≤ w.heap.size) (hv : TS w (On N L) t d) (hL : M ≤ L) (hA : ∀ k, ow A = some k → k < L) (hd : ds' = ds ++ [d]) (ho : OwnT w' A' c' ds') (hg : w.grownBy w' (ow A)) (hr : Nr w A A') : Kw w' N M A' c' ds' (ts ++ [t]) := by
  subst hd
  have ne' : ∀ k, k < w.heap.size → some k ≠ ow A → some k ≠ ow A' := fun k hk hne e => by
    rcases hr with e2 | ⟨j, e2, hj⟩
    · exact hne (by rw [← e2]; exact e)
    · rw [e2] at e; injection e with e; omega
  refine ⟨ho, by simp [h.len], fun i t' d' h1 h2 => ?_, fun k hk => ?_⟩
  · rcases Nat.lt_or_ge i ts.length with hi | hi
    · rw [List.getElem?_append_left hi] at h1
      rw [List.getElem?_append_left (by rw [h.len]; exact hi)] at h2
      exact (h.el i t' d' h1 h2).to hg.size fun k hk hlt => ⟨⟨hk.1, ne' k hlt hk.2⟩, hg.block k hlt hk.2⟩
    · have e1 : i = ts.length := by
        rcases Nat.lt_or_ge ts.length i with h' | h'
        · rw [List.getElem?_eq_none (by simp; omega)] at h1; cases h1
        · omega
      subst e1
      rw [List.getElem?_append_right (Nat.le_refl _)] at h1
      rw [List.getElem?_append_right (by rw [h.len]; exact Nat.le_refl _), h.len] at h2
      simp at h1 h2
      subst h1; subst h2
      refine hv.to hg.size fun k hk hlt => ?_
      have hne : some k ≠ ow A := fun e => by
        have h1 := hA k e.symm
        have h2 := h.blk k e.symm
        rcases hk with hk | hk <;> omega
      refine ⟨⟨?_, ne' k hlt hne⟩, hg.block k hlt hne⟩
      rcases hk with hk | hk
      · exact .inl hk
      · exact .inr (by omega)
  · rcases hr with e2 | ⟨j, e2, hj⟩
    · exact h.blk k (by rw [← e2]; exact hk)
    · rw [e2] at hk
      injection hk with hk
      subst hk
      omega
theorem Kw.inS (h : Kw w N M A c ds ts) (op : Int) (f : Nat → Bool) (q : Nat → BitVec 64) (lo hi : Int) (hq : IsK f q) (hn : ts.length ≤ 9223372036854775807) : TS w (On N M) (.mk op f lo hi ts) ⟨op, q, lo, hi, A, ds.length, c⟩ := by
  rw [h.len]
  refine .mk op f lo hi ts _ A c ds hq h.len hn (fun i t d h1 h2 => (h.el i t d h1 h2).to (Nat.le_refl _) fun k hk _ => ⟨hk.1, rfl⟩) fun h0 => ?_
  obtain ⟨b, e, hr⟩ := h.own.row h0
  refine ⟨b, 0, e, .inr (h.blk b (by rw [e]; rfl)), h.own.lt (by rw [e]; rfl), fun i d hd j hj => ?_⟩
  rw [Nat.zero_add]; exact hr.cell hd j hj
end
mutual
/-- a term with nothing between in place of what matches nothing at all -/
def woT : Tm → Tm
  | .mk op f lo hi ks => if op = 9 then .mk 1 f lo hi ks else .mk op f lo hi (woL ks)
def woL : List Tm → List Tm
  | [] => []
  | t :: ts => woT t :: woL ts
end
theorem woL_len : ∀ ks : List Tm, (woL ks).length = ks.length
  | [] => rfl
  | _ :: ks => by rw [woL, List.length_cons, List.length_cons, woL_len ks]
theorem woL_at : ∀ (ks : List Tm) (i : Nat), (woL ks)[i]? = (ks[i]?).map woT
  | [], i => by simp [woL]
  | t :: ks, 0 => by simp [woL]
  | t :: ks, i + 1 => by simp [woL, woL_at ks i]
theorem TB.set7 {w : World} {b : Nat} {d : TD} (h : TB w b d) (A : Option Addr) (n c : Nat) : TB (w.setCell ⟨b, 7, none⟩ (.slice A n c)) b ⟨d.op, d.q, d.lo, d.hi, A, n, c⟩ := by
  unfold TB at *
  simp only [World.setCell, Array.getElem?_modify, h]
  simp [TD.cells]
theorem nb2 (w : World) (a b : Obj) : Below w.heap.size w ((w.alloc a).alloc b) := ((Below.refl _ _).alloc (Nat.le_refl _) _).alloc (by simp) _
theorem nb3 (w : World) (a b c : Obj) : Below w.heap.size w (((w.alloc a).alloc b).alloc c) := (((Below.refl _ _).alloc (Nat.le_refl _) _).alloc (by simp) _).alloc (by simp; omega) _
theorem bel8 {B : Nat} {w w' : World} {k : Nat} (h : Below B w w') (hk : B ≤ k) (a0 a1 a2 a3 a4 a5 a6 a7 : Value) : Below B w (set8 w' k a0 a1 a2 a3 a4 a5 a6 a7) :=
  (((((((h.setCell (p := ⟨k, 0, none⟩) hk _).setCell (p := ⟨k, 1, none⟩) hk _).setCell (p := ⟨k, 2, none⟩) hk _).setCell (p := ⟨k, 3, none⟩) hk _).setCell (p := ⟨k, 4, none⟩) hk _).setCell (p := ⟨k, 5, none⟩) hk _).setCell (p := ⟨k, 6, none⟩) hk _).setCell (p := ⟨k, 7, none⟩) hk _
theorem TS.ends8 {w : World} {S S' : Nat → Prop} {t : Tm} {d : TD} {k : Nat} (h : TS w S t d) (hk : ¬ S k) (hS : ∀ j, S j → S' j) (a0 a1 a2 a3 a4 a5 a6 a7 : Value) : TS (set8 w k a0 a1 a2 a3 a4 a5 a6 a7) S' t d :=
  h.to (by rw [set8_size]; exact Nat.le_refl _) fun j hj _ => ⟨hS j hj, set8_heap w k j _ _ _ _ _ _ _ _ (fun e => hk (by rw [← e]; exact hj))⟩
/-- what the loop carries -/
structure Lw (w wr : World) (N : Nat) (a : TD) (K : Option Addr) (ck : Nat) (ds : List TD) (ts : List Tm) : Prop where
  kw : Kw wr N (w.heap.size + 3) K ck ds ts
  bel : Below w.heap.size w wr
  arg : TB wr w.heap.size a
  res : TB wr (w.heap.size + 1) zT
  out : TB wr (w.heap.size + 2) ⟨a.op, a.q, a.lo, a.hi, K, ds.length, ck⟩
section
variable {w wr w' w'' : World} {N : Nat} {a d : TD} {K K' : Option Addr} {ck ck' : Nat} {ds ds' : List TD} {ts : List Tm} {t : Tm}
theorem Lw.size (h : Lw w wr N a K ck ds ts) : w.heap.size + 3 ≤ wr.heap.size := by have := h.out.lt; omega
theorem Lw.to (h : Lw w wr N a K ck ds ts) (hb : Below wr.heap.size wr w') : Lw w w' N a K ck ds ts :=
  ⟨h.kw.below hb, h.bel.trans (hb.mono h.bel.size), h.arg.below hb, h.res.below hb, h.out.below hb⟩
theorem Lw.push (h : Lw w wr N a K ck ds ts) (hN : N ≤ w.heap.size) (hb : Below wr.heap.size wr w') (hv : TS w' (On N wr.heap.size) t d)
    (hd : ds' = ds ++ [d]) (hown : OwnT w'' K' ck' ds') (hgr : (w'.alloc (.cells d.cells 29)).grownBy w'' (ow K)) (hnr : Nr (w'.alloc (.cells d.cells 29)) K K') :
    Lw w (w''.setCell ⟨w.heap.size + 2, 7, none⟩ (.slice K' ds'.length ck')) N a K' ck' ds' (ts ++ [t]) := by
  have hs := h.size
  have h1 := h.to (hb.trans ((below_new w' (.cells d.cells 29)).mono hb.size))
  have hs1 := h1.size
  have hk := h1.kw.push (by omega) (by omega) (hv.keeps (below_new _ _)) hs (fun k hk => h.kw.own.lt hk) hd hown hgr hnr
  have hne : ∀ k, k < w.heap.size + 3 → some k ≠ ow K := fun k hk e => by have := h.kw.blk k e.symm; omega
  have t1 : TB w'' w.heap.size a := (hgr.block _ (by omega) (hne _ (by omega))).trans h1.arg
  have t3 : TB w'' (w.heap.size + 1) zT := (hgr.block _ (by omega) (hne _ (by omega))).trans h1.res
  have t2 : TB w'' (w.heap.size + 2) ⟨a.op, a.q, a.lo, a.hi, K, ds.length, ck⟩ := (hgr.block _ (by omega) (hne _ (by omega))).trans h1.out
  refine ⟨hk.to (by simp [World.setCell]) fun k hk _ => Below.heap_setCell _ _ _ _ ?_, ?_, (Below.heap_setCell _ _ _ _ (by simp)).trans t1, (Below.heap_setCell _ _ _ _ (by simp)).trans t3, t2.set7 _ _ _⟩
  · rcases hk with h | h <;> simp <;> omega
  · exact (h1.bel.grown hgr (by omega) fun k hk => by have := h.kw.blk k hk; omega).setCell (by simp) _
end
/-- a term laid behind a row of terms, at a step of a region that draws -/
theorem step_appT {ops : Array Oper} {o : Oper} {a : Act} {K : Act → World → Prop} {Q : Exit → Act → World → Prop} {E : Prop} {w : World} (hgd : o.guard = none) (s x : Operand)
    (ho : o.op = .call { callee := .builtin .append, args := #[s, x], argTypes := #[27, 27] })
    (A : Option Addr) (c : Nat) (ds : List TD) (hown : OwnT w A c ds) (z c2 : Nat) (d : TD) (hz : TB w z d) (lx : ds.length ≤ 1048576)
    (hs : a.eval s = .slice A ds.length c) (hxx : a.eval x = .slice (some ⟨z, 0, none⟩) 1 c2)
    (h : ∀ A' c' ds' w', Hid (ds' = ds ++ [d]) → OwnT w' A' c' ds' → w.grownBy w' (ow A) → Nr w A A' → K (a.put o.dst (.slice A' ds'.length c')) w') :
    if Region.wanted o (yielded ops a.tmps) = true then Oper.wp Try.prog o a w K Q else E := by
  obtain ⟨i0, z0, hi0, hz0, hz1, hz2, hz3⟩ := info29_parts
  refine step_append_lies _ hgd s x 27 ho 0 29 i0 z0 8 80 Try.underlying27 hi0 hz0 hz1 hz2 hz3 (by omega) _ ds.length (tcs ds) hs hown ⟨z, 0, none⟩ 1 c2 (tcs [d]) hxx rfl ?_ ?_ (by omega) (by unfold maxLen; omega) (by omega) (Nat.zero_le _) w.heap.size rfl ?_
  · intro j u hj
    have e : tcs [d] = d.cells.toList := by simp [tcs]
    rw [e] at hj
    exact World.news_of_block hz j u hj
  · intro u hu
    simp [tcs, TD.cells] at hu
    rcases hu with rfl | rfl | rfl | rfl | rfl | rfl | rfl | rfl <;> rfl
  · intro g cap w' hown' hgrow hblk _
    have e : (ds ++ [d]).length = ds.length + 1 := by simp
    have := h (some ⟨g, 0, none⟩) cap (ds ++ [d]) w' rfl (by unfold OwnT; rw [e, tcs_app]; exact hown') (by rw [← ow_own A ds.length c]; exact hgrow) (by
      rcases hblk with h1 | h1
      · rw [ow_own] at h1; exact .inl h1.symm
      · exact .inr ⟨g, rfl, by omega⟩)
    rw [e] at this
    exact this
end Go.Proofs.Ytnaecagmcpndhaa
