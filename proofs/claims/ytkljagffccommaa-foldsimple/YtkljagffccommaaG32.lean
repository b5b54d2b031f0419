/- Terms in blocks of a set, wherever they lie; a row of such terms under way. A term without what matches nothing at all. A term as new memory. Right of the laws of width; small terms of terms. -/
import Derived.Test.YtkljagffccommaaG26
import Derived.Deep.AppendLies
import Derived.Deep.RegionLaw
import Derived.Test.YtkljagffccommaaG29
namespace Go.Proofs.Ytkljagffccommaa
open Go.RowKit
/-- a row of terms lies there, in a block of S -/
def RowIn (w : World) (S : Nat → Prop) (A : Option Addr) (ds : List TD) : Prop := 0 < ds.length → ∃ b off, A = some ⟨b, off, none⟩ ∧ S b ∧ b < w.heap.size ∧ ∀ (i : Nat) (d : TD), ds[i]? = some d → ∀ j, j < 8 → w.cell? ⟨b, off + i * 8 + j, none⟩ = d.cells[j]?
/-- cells tell a term, wherever they lie, in blocks of S alone -/
inductive TS (w : World) (S : Nat → Prop) : Tm → TD → Prop
  | mk (op : Int) (f : Nat → Bool) (lo hi : Int) (kids : List Tm) (q : Nat → BitVec 64) (A : Option Addr) (c : Nat) (ds : List TD)
      (hq : IsK f q) (hl : ds.length = kids.length) (hn : kids.length ≤ 9223372036854775807) (hk : ∀ (i : Nat) (t : Tm) (d : TD), kids[i]? = some t → ds[i]? = some d → TS w S t d)
      (hr : RowIn w S A ds) : TS w S (.mk op f lo hi kids) ⟨op, q, lo, hi, A, kids.length, c⟩
section
variable {w w' w'' : World} {S S' : Nat → Prop} {t : Tm} {d : TD} {N M : Nat} {A A' : Option Addr} {c c' : Nat} {ds ds' : List TD} {ts : List Tm}
theorem TS.tr (h : TS w S t d) : TR w t d := by
  induction h with
  | mk op f lo hi kids q A c ds hq hl hn hk hr ih =>
    refine .mk op f lo hi kids q A c ds hq hl hn ih fun h0 => ?_
    obtain ⟨b, off, e, _, hlt, hc⟩ := hr h0
    exact ⟨b, off, e, hlt, hc⟩
theorem TR.inS (h : TR w t d) : TS w (fun b => b < w.heap.size) t d := by
  induction h with
  | mk op f lo hi kids q A c ds hq hl hn hk hr ih =>
    refine .mk op f lo hi kids q A c ds hq hl hn ih fun h0 => ?_
    obtain ⟨b, off, e, hlt, hc⟩ := hr h0
    exact ⟨b, off, e, hlt, hlt, hc⟩
theorem TS.to (h : TS w S t d) (hsz : w.heap.size ≤ w'.heap.size) (hs : ∀ k, S k → k < w.heap.size → S' k ∧ w'.heap[k]? = w.heap[k]?) : TS w' S' t d := by
  induction h with
  | mk op f lo hi kids q A c ds hq hl hn hk hr ih =>
    refine .mk op f lo hi kids q A c ds hq hl hn ih fun h0 => ?_
    obtain ⟨b, off, e, hb, hlt, hc⟩ := hr h0
    refine ⟨b, off, e, (hs b hb hlt).1, Nat.lt_of_lt_of_le hlt hsz, fun i d hd j hj => ?_⟩
    rw [World.cell?_of_block (a := ⟨b, off + i * 8 + j, none⟩) (hs b hb hlt).2]
    exact hc i d hd j hj
theorem TS.keeps (h : TS w S t d) (hb : Below w.heap.size w w') : TS w' S t d := h.to hb.size fun k hk hlt => ⟨hk, hb.block k hlt⟩
/-- old blocks, and those from one on -/
def On (N M : Nat) : Nat → Prop := fun k => k < N ∨ M ≤ k
/-- a row of terms that was made from block M on; its terms lie in old blocks or in new ones, never in the row's own -/
structure Kw (w : World) (N M : Nat) (A : Option Addr) (c : Nat) (ds : List TD) (ts : List Tm) : Prop where
  own : OwnT w A c ds
  len : ds.length = ts.length
  el : ∀ (i : Nat) (t : Tm) (d : TD), ts[i]? = some t → ds[i]? = some d → TS w (fun k => On N M k ∧ some k ≠ ow A) t d
  blk : ∀ k, ow A = some k → M ≤ k
theorem Kw.nil (w : World) (N M : Nat) : Kw w N M none 0 [] [] := ⟨ownt_nil w, rfl, fun i t d h => by simp at h, fun k h => by cases h⟩
theorem Kw.below (h : Kw w N M A c ds ts) (hb : Below w.heap.size w w') : Kw w' N M A c ds ts := ⟨h.own.below hb, h.len, fun i t d h1 h2 => (h.el i t d h1 h2).keeps hb, h.blk⟩
theorem Kw.to (h : Kw w N M A c ds ts) (hsz : w.heap.size ≤ w'.heap.size) (hs : ∀ k, On N M k → k < w.heap.size → w'.heap[k]? = w.heap[k]?) : Kw w' N M A c ds ts :=
  ⟨h.own.blocks fun k hk => hs k (.inr (h.blk k hk)) (h.own.lt hk), h.len, fun i t d h1 h2 => (h.el i t d h1 h2).to hsz fun k hk hlt => ⟨hk, hs k hk.1 hlt⟩, h.blk⟩
theorem Kw.push {L : Nat} (h : Kw w N M A c ds ts) (hN : N ≤ M) (hM : M ≤ w.heap.size) (hv : TS w (On N L) t d) (hL : M ≤ L) (hA : ∀ k, ow A = some k → k < L) (hd : ds' = ds ++ [d]) (ho : OwnT w' A' c' ds') (hg : w.grownBy w' (ow A)) (hr : Nr w A A') : Kw w' N M A' c' ds' (ts ++ [t]) := by
  subst hd
  have ne' : ∀ k, k < w.heap.size → some k ≠ ow A → some k ≠ ow A' := fun k hk hne e => by
    rcases hr with e2 | ⟨j, e2, hj⟩
    · exact hne (by rw [← e2]; exact e)
    · rw [e2] at e; injection e with e; omega
  refine ⟨ho, by simp [h.len], fun i t' d' h1 h2 => ?_, fun k hk => ?_⟩
  · rcases Nat.lt_or_ge i ts.length with hi | hi
    · rw [List.getElem?_append_left hi] at h1
      rw [List.getElem?_append_left (by rw [h.len]; exact hi)] at h2
      exact (h.el i t' d' h1 h2).to hg.size fun k hk hlt => ⟨⟨hk.1, ne' k hlt hk.2⟩, hg.block k hlt hk.2⟩
    · have e1 : i = ts.length := by
        rcases Nat.lt_or_ge ts.length i with h' | h'
        · rw [List.getElem?_eq_none (by simp; omega)] at h1; cases h1
        · omega
      subst e1
      rw [List.getElem?_append_right (Nat.le_refl _)] at h1
      rw [List.getElem?_append_right (by rw [h.len]; exact Nat.le_refl _), h.len] at h2
      simp at h1 h2
      subst h1; subst h2
      refine hv.to hg.size fun k hk hlt => ?_
      have hne : some k ≠ ow A := fun e => by
        have h1 := hA k e.symm
        have h2 := h.blk k e.symm
        rcases hk with hk | hk <;> omega
      refine ⟨⟨?_, ne' k hlt hne⟩, hg.block k hlt hne⟩
      rcases hk with hk | hk
      · exact .inl hk
      · exact .inr (by omega)
  · rcases hr with e2 | ⟨j, e2, hj⟩
    · exact h.blk k (by rw [← e2]; exact hk)
    · rw [e2] at hk
      injection hk with hk
      subst hk
      omega
theorem Kw.inS (h : Kw w N M A c ds ts) (op : Int) (f : Nat → Bool) (q : Nat → BitVec 64) (lo hi : Int) (hq : IsK f q) (hn : ts.length ≤ 9223372036854775807) : TS w (On N M) (.mk op f lo hi ts) ⟨op, q, lo, hi, A, ds.length, c⟩ := by
  rw [h.len]
  refine .mk op f lo hi ts _ A c ds hq h.len hn (fun i t d h1 h2 => (h.el i t d h1 h2).to (Nat.le_refl _) fun k hk _ => ⟨hk.1, rfl⟩) fun h0 => ?_
  obtain ⟨b, e, hr⟩ := h.own.row h0
  refine ⟨b, 0, e, .inr (h.blk b (by rw [e]; rfl)), h.own.lt (by rw [e]; rfl), fun i d hd j hj => ?_⟩
  rw [Nat.zero_add]; exact hr.cell hd j hj
end
mutual
/-- a term with nothing between in place of what matches nothing at all -/
def woT : Tm → Tm
  | .mk op f lo hi ks => if op = 9 then .mk 1 f lo hi ks else .mk op f lo hi (woL ks)
def woL : List Tm → List Tm
  | [] => []
  | t :: ts => woT t :: woL ts
end
theorem woL_len : ∀ ks : List Tm, (woL ks).length = ks.length
  | [] => rfl
  | _ :: ks => by rw [woL, List.length_cons, List.length_cons, woL_len ks]
theorem woL_at : ∀ (ks : List Tm) (i : Nat), (woL ks)[i]? = (ks[i]?).map woT
  | [], i => by simp [woL]
  | t :: ks, 0 => by simp [woL]
  | t :: ks, i + 1 => by simp [woL, woL_at ks i]
theorem TB.set7 {w : World} {b : Nat} {d : TD} (h : TB w b d) (A : Option Addr) (n c : Nat) : TB (w.setCell ⟨b, 7, none⟩ (.slice A n c)) b ⟨d.op, d.q, d.lo, d.hi, A, n, c⟩ := by
  unfold TB at *
  simp only [World.setCell, Array.getElem?_modify, h]
  simp [TD.cells]
theorem nb2 (w : World) (a b : Obj) : Below w.heap.size w ((w.alloc a).alloc b) := ((Below.refl _ _).alloc (Nat.le_refl _) _).alloc (by simp) _
theorem nb3 (w : World) (a b c : Obj) : Below w.heap.size w (((w.alloc a).alloc b).alloc c) := (((Below.refl _ _).alloc (Nat.le_refl _) _).alloc (by simp) _).alloc (by simp; omega) _
theorem bel8 {B : Nat} {w w' : World} {k : Nat} (h : Below B w w') (hk : B ≤ k) (a0 a1 a2 a3 a4 a5 a6 a7 : Value) : Below B w (set8 w' k a0 a1 a2 a3 a4 a5 a6 a7) :=
  (((((((h.setCell (p := ⟨k, 0, none⟩) hk _).setCell (p := ⟨k, 1, none⟩) hk _).setCell (p := ⟨k, 2, none⟩) hk _).setCell (p := ⟨k, 3, none⟩) hk _).setCell (p := ⟨k, 4, none⟩) hk _).setCell (p := ⟨k, 5, none⟩) hk _).setCell (p := ⟨k, 6, none⟩) hk _).setCell (p := ⟨k, 7, none⟩) hk _
theorem TS.ends8 {w : World} {S S' : Nat → Prop} {t : Tm} {d : TD} {k : Nat} (h : TS w S t d) (hk : ¬ S k) (hS : ∀ j, S j → S' j) (a0 a1 a2 a3 a4 a5 a6 a7 : Value) : TS (set8 w k a0 a1 a2 a3 a4 a5 a6 a7) S' t d :=
  h.to (by rw [set8_size]; exact Nat.le_refl _) fun j hj _ => ⟨hS j hj, set8_heap w k j _ _ _ _ _ _ _ _ (fun e => hk (by rw [← e]; exact hj))⟩
/-- what the loop carries -/
structure Lw (w wr : World) (N : Nat) (a : TD) (K : Option Addr) (ck : Nat) (ds : List TD) (ts : List Tm) : Prop where
  kw : Kw wr N (w.heap.size + 3) K ck ds ts
  bel : Below w.heap.size w wr
  arg : TB wr w.heap.size a
  res : TB wr (w.heap.size + 1) zT
  out : TB wr (w.heap.size + 2) ⟨a.op, a.q, a.lo, a.hi, K, ds.length, ck⟩
section
variable {w wr w' w'' : World} {N : Nat} {a d : TD} {K K' : Option Addr} {ck ck' : Nat} {ds ds' : List TD} {ts : List Tm} {t : Tm}
theorem Lw.size (h : Lw w wr N a K ck ds ts) : w.heap.size + 3 ≤ wr.heap.size := by have := h.out.lt; omega
theorem Lw.to (h : Lw w wr N a K ck ds ts) (hb : Below wr.heap.size wr w') : Lw w w' N a K ck ds ts :=
  ⟨h.kw.below hb, h.bel.trans (hb.mono h.bel.size), h.arg.below hb, h.res.below hb, h.out.below hb⟩
theorem Lw.push (h : Lw w wr N a K ck ds ts) (hN : N ≤ w.heap.size) (hb : Below wr.heap.size wr w') (hv : TS w' (On N wr.heap.size) t d)
    (hd : ds' = ds ++ [d]) (hown : OwnT w'' K' ck' ds') (hgr : (w'.alloc (.cells d.cells 29)).grownBy w'' (ow K)) (hnr : Nr (w'.alloc (.cells d.cells 29)) K K') :
    Lw w (w''.setCell ⟨w.heap.size + 2, 7, none⟩ (.slice K' ds'.length ck')) N a K' ck' ds' (ts ++ [t]) := by
  have hs := h.size
  have h1 := h.to (hb.trans ((below_new w' (.cells d.cells 29)).mono hb.size))
  have hs1 := h1.size
  have hk := h1.kw.push (by omega) (by omega) (hv.keeps (below_new _ _)) hs (fun k hk => h.kw.own.lt hk) hd hown hgr hnr
  have hne : ∀ k, k < w.heap.size + 3 → some k ≠ ow K := fun k hk e => by have := h.kw.blk k e.symm; omega
  have t1 : TB w'' w.heap.size a := (hgr.block _ (by omega) (hne _ (by omega))).trans h1.arg
  have t3 : TB w'' (w.heap.size + 1) zT := (hgr.block _ (by omega) (hne _ (by omega))).trans h1.res
  have t2 : TB w'' (w.heap.size + 2) ⟨a.op, a.q, a.lo, a.hi, K, ds.length, ck⟩ := (hgr.block _ (by omega) (hne _ (by omega))).trans h1.out
  refine ⟨hk.to (by simp [World.setCell]) fun k hk _ => Below.heap_setCell _ _ _ _ ?_, ?_, (Below.heap_setCell _ _ _ _ (by simp)).trans t1, (Below.heap_setCell _ _ _ _ (by simp)).trans t3, t2.set7 _ _ _⟩
  · rcases hk with h | h <;> simp <;> omega
  · exact (h1.bel.grown hgr (by omega) fun k hk => by have := h.kw.blk k hk; omega).setCell (by simp) _
end
/-- a term laid behind a row of terms, at a step of a region that draws -/
theorem step_appT {ops : Array Oper} {o : Oper} {a : Act} {K : Act → World → Prop} {Q : Exit → Act → World → Prop} {E : Prop} {w : World} (hgd : o.guard = none) (s x : Operand)
    (ho : o.op = .call { callee := .builtin .append, args := #[s, x], argTypes := #[27, 27] })
    (A : Option Addr) (c : Nat) (ds : List TD) (hown : OwnT w A c ds) (z c2 : Nat) (d : TD) (hz : TB w z d) (lx : ds.length ≤ 1048576)
    (hs : a.eval s = .slice A ds.length c) (hxx : a.eval x = .slice (some ⟨z, 0, none⟩) 1 c2)
    (h : ∀ A' c' ds' w', Hid (ds' = ds ++ [d]) → OwnT w' A' c' ds' → w.grownBy w' (ow A) → Nr w A A' → K (a.put o.dst (.slice A' ds'.length c')) w') :
    if Region.wanted o (yielded ops a.tmps) = true then Oper.wp Try.prog o a w K Q else E := by
  obtain ⟨i0, z0, hi0, hz0, hz1, hz2, hz3⟩ := info29_parts
  refine step_append_lies _ hgd s x 27 ho 0 29 i0 z0 8 80 Try.underlying27 hi0 hz0 hz1 hz2 hz3 (by omega) _ ds.length (tcs ds) hs hown ⟨z, 0, none⟩ 1 c2 (tcs [d]) hxx rfl ?_ ?_ (by omega) (by unfold maxLen; omega) (by omega) (Nat.zero_le _) w.heap.size rfl ?_
  · intro j u hj
    have e : tcs [d] = d.cells.toList := by simp [tcs]
    rw [e] at hj
    exact World.news_of_block hz j u hj
  · intro u hu
    simp [tcs, TD.cells] at hu
    rcases hu with rfl | rfl | rfl | rfl | rfl | rfl | rfl | rfl <;> rfl
  · intro g cap w' hown' hgrow hblk _
    have e : (ds ++ [d]).length = ds.length + 1 := by simp
    have := h (some ⟨g, 0, none⟩) cap (ds ++ [d]) w' rfl (by unfold OwnT; rw [e, tcs_app]; exact hown') (by rw [← ow_own A ds.length c]; exact hgrow) (by
      rcases hblk with h1 | h1
      · rw [ow_own] at h1; exact .inl h1.symm
      · exact .inr ⟨g, rfl, by omega⟩)
    rw [e] at this
    exact this
end Go.Proofs.Ytkljagffccommaa
namespace Go.Proofs.Ytkljagffccommaa
open Go.RowKit
theorem woL_snoc (ks : List Tm) (i : Nat) (hi : i < ks.length) : woL (ks.take (i + 1)) = woL (ks.take i) ++ [woT ks[i]] := by
  apply List.ext_getElem?
  intro j
  rw [woL_at, List.getElem?_append, woL_len, List.length_take, Nat.min_eq_left (by omega)]
  split
  · rename_i h
    rw [woL_at, List.getElem?_take_of_lt (by omega), List.getElem?_take_of_lt h]
  · rename_i h
    rcases Nat.lt_or_ge i j with h' | h'
    · rw [List.getElem?_take_eq_none (by omega), List.getElem?_eq_none (by simp; omega)]; rfl
    · have : j = i := by omega
      subst this
      rw [List.getElem?_take_of_lt (by omega), List.getElem?_eq_getElem hi]
      simp
theorem Few.len {op : Int} {f : Nat → Bool} {lo hi : Int} {ks : List Tm} (h : Few (.mk op f lo hi ks)) : ks.length ≤ 500 := by cases h with | mk _ _ _ _ _ h _ => exact h
theorem Few.kid {op : Int} {f : Nat → Bool} {lo hi : Int} {ks : List Tm} (h : Few (.mk op f lo hi ks)) {k : Tm} (hk : k ∈ ks) : Few k := by cases h with | mk _ _ _ _ _ _ h => exact h k hk
/-- a term of new memory, or of the old one -/
def Wo (w : World) (N : Nat) (t : Tm) (e : Ending) (w' : World) : Prop := ∃ d : TD, e = .returned d.val ∧ TS w' (On N w.heap.size) t d ∧ Below w.heap.size w w'
theorem Lw.grew {w wr w' w'' : World} {N : Nat} {a d : TD} {K : Option Addr} {ck : Nat} {ds : List TD} {ts : List Tm} (h : Lw w wr N a K ck ds ts) (hb : Below wr.heap.size wr w') (hgr : (w'.alloc (.cells d.cells 29)).grownBy w'' (ow K)) : TB w'' w.heap.size a ∧ TB w'' (w.heap.size + 2) ⟨a.op, a.q, a.lo, a.hi, K, ds.length, ck⟩ ∧ Below w.heap.size w w'' := by
  have h1 := h.to (hb.trans ((below_new w' (.cells d.cells 29)).mono hb.size))
  have hs1 := h1.size
  have hne : ∀ k, k < w.heap.size + 3 → some k ≠ ow K := fun k hk e => by have := h.kw.blk k e.symm; omega
  exact ⟨(hgr.block _ (by omega) (hne _ (by omega))).trans h1.arg, (hgr.block _ (by omega) (hne _ (by omega))).trans h1.out, h1.bel.grown hgr (by omega) fun k hk => by have := h.kw.blk k hk; omega⟩
set_option maxRecDepth 100000 in
set_option maxHeartbeats 8000000 in
theorem without_any : ∀ (t : Tm) (d : TD) (N : Nat) (w : World), N ≤ w.heap.size → TS w (fun k => k < N) t d → Few t → Calls Try.prog 37 #[d.val] w (Wo w N (woT t)) := by
  intro t
  induction t using Tm.ind with
  | h op f lo hi ks ih =>
  intro d N w hN ht hf
  cases ht with
  | mk _ _ _ _ _ q A c ds hq hl hn hk hr =>
  have h500 := hf.len
  by_cases h9 : op = 9
  · subst h9
    have R : woT (.mk 9 f lo hi ks) = .mk 1 f lo hi ks := by rw [woT, if_pos rfl]
    rw [R]
    have V : Hid (∀ W : World, Below w.heap.size w W → TS W (On N w.heap.size) (.mk 1 f lo hi ks) ⟨1, q, lo, hi, A, ks.length, c⟩) := fun W hW =>
      (TS.mk (S := fun k => k < N) 1 f lo hi ks q A c ds hq hl hn hk hr).to hW.size fun k hk hlt => ⟨.inl hk, hW.block k hlt⟩
    clear ih hk hr hq hf hl R
    obtain ⟨n, hnn⟩ : ∃ n, ks.length = n := ⟨_, rfl⟩
    rw [hnn] at V hn h500
    simp only [hnn]
    have HN := Lib.hid hnn
    clear hnn
    unfold TD.val
    go_enter Try.func37, Try.ntmps37
    go_wp2
    refine bodyPost_ret (v := TD.val ⟨1, q, lo, hi, A, n, c⟩) ?_ rfl ?_
    · simp [results, Try.results37, go_sem, TD.val]
    · exact ⟨_, rfl, V.out _ (nb3 _ _ _ _), nb3 _ _ _ _⟩
  · have R : Hid (woT (.mk op f lo hi ks) = .mk op f lo hi (woL ks)) := by show _ = _; rw [woT, if_neg h9]
    obtain ⟨n, hnn⟩ : ∃ n, ks.length = n := ⟨_, rfl⟩
    rw [hnn] at hn h500
    have L0 : Hid (Lw w (((w.alloc (.cells #[.int .i64 op, .int .u64 (uv (q 0)), .int .u64 (uv (q 1)), .int .u64 (uv (q 2)), .int .u64 (uv (q 3)), .int .i64 lo, .int .i64 hi, .slice A n c] 29)).alloc (.cells #[.int .i64 0, .int .u64 0, .int .u64 0, .int .u64 0, .int .u64 0, .int .i64 0, .int .i64 0, .slice none 0 0] 29)).alloc (.cells #[.int .i64 op, .int .u64 (uv (q 0)), .int .u64 (uv (q 1)), .int .u64 (uv (q 2)), .int .u64 (uv (q 3)), .int .i64 lo, .int .i64 hi, .slice none 0 0] 29)) N ⟨op, q, lo, hi, A, n, c⟩ none 0 [] (woL (ks.take 0))) := by
      refine ⟨?_, nb3 _ _ _ _, ((TB.new w ⟨op, q, lo, hi, A, n, c⟩).alloc _).alloc _, ?_, ?_⟩
      · rw [List.take_zero, woL]; exact Kw.nil _ _ _
      · have := TB.new (w.alloc (.cells #[.int .i64 op, .int .u64 (uv (q 0)), .int .u64 (uv (q 1)), .int .u64 (uv (q 2)), .int .u64 (uv (q 3)), .int .i64 lo, .int .i64 hi, .slice A n c] 29)) zT
        rw [World.size_alloc] at this
        exact this.alloc _
      · have := TB.new ((w.alloc (.cells #[.int .i64 op, .int .u64 (uv (q 0)), .int .u64 (uv (q 1)), .int .u64 (uv (q 2)), .int .u64 (uv (q 3)), .int .i64 lo, .int .i64 hi, .slice A n c] 29)).alloc (.cells #[.int .i64 0, .int .u64 0, .int .u64 0, .int .u64 0, .int .u64 0, .int .i64 0, .int .i64 0, .slice none 0 0] 29)) ⟨op, q, lo, hi, none, 0, 0⟩
        rw [World.size_alloc, World.size_alloc] at this
        exact this
    obtain ⟨⟨x0, x1, x2, x3, x4, x5, x6, x7⟩, _⟩ := L0.out.arg.all
    have IH := Lib.hid ih; have HK := Lib.hid hk; have HR := Lib.hid hr; have HL := Lib.hid hl; have HN := Lib.hid hnn; have HF := Lib.hid hf; have HQ := Lib.hid hq; have H0 := Lib.hid hN
    simp only [hnn]
    clear ih hk hr hl hnn hf hq hN
    unfold TD.val
    go_enter Try.func37, Try.ntmps37
    go_wp2_with fail
    go_loopw [5] (fun v wr => ∃ (i : Nat) (K : Option Addr) (ck : Nat) (ds' : List TD), i ≤ n ∧ v = .int .i64 (i : Nat) ∧ Hid (Lw w wr N ⟨op, q, lo, hi, A, n, c⟩ K ck ds' (woL (ks.take i)))) (fun v _ => n - (intOf v).toNat)
    case atStart => exact ⟨0, none, 0, [], Nat.zero_le _, rfl, L0⟩
    case round =>
      obtain ⟨i, K, ck, ds', hi1, rfl, hL⟩ := hrel
      clear x0 x1 x2 x3 x4 x5 x6 x7 L0
      obtain ⟨⟨x0, x1, x2, x3, x4, x5, x6, x7⟩, _⟩ := hL.out.arg.all
      obtain ⟨⟨o0, o1, o2, o3, o4, o5, o6, o7⟩, _⟩ := hL.out.out.all
      have hdl : ds'.length ≤ 1048576 := by have h1 := hL.out.kw.len; rw [woL_len, List.length_take] at h1; omega
      by_cases hlt : i < n
      · have qi : (i : Int) < (n : Int) := by omega
        have hi2 : i < ks.length := by have := HN.out; omega
        have hi4 : i < ds.length := by have h1 := HL.out; omega
        obtain ⟨kb1, off1, rfl, hb0, hb1, hc1⟩ := HR.out (by omega)
        have hdt := List.getElem?_eq_getElem hi4
        obtain ⟨a0, a1, a2, a3, a4, a5, a6, a7⟩ := kid_cells hL.out.bel hb1 hc1 hdt
        have k1 := (HK.out i _ _ (List.getElem?_eq_getElem hi2) (List.getElem?_eq_getElem hi4)).keeps hL.out.bel
        have tk : Hid (woL (ks.take (i + 1)) = woL (ks.take i) ++ [woT ks[i]]) := woL_snoc ks i hi2
        have hm := List.getElem_mem hi2
        generalize ks[i] = kt at *
        generalize ds[i] = dt at *
        have dr : Below wr.heap.size wr wr.drew := (Below.refl _ _).drew
        have D1 := Lib.hid (IH.out kt hm dt N wr.drew (Nat.le_trans H0.out hL.out.bel.size) (k1.keeps dr) (HF.out.kid hm))
        have CE : Hid (∀ W : World, Below w.heap.size w W → _) := fun W hW => kid_cells hW hb1 hc1 hdt
        have L1 := Lib.hid (hL.out.to dr)
        have kbl : kb1 < w.heap.size := hb1
        have wl : w.heap.size + 2 < wr.heap.size := hL.out.size
        have q6 : IntKind.i64.wrap ((i : Int) + 1) = ((i + 1 : Nat) : Int) := by rw [IntWalk.i64_in _ (by omega)]; omega
        have kbl2 : kb1 < wr.heap.size := by omega
        have wl2 : w.heap.size < wr.heap.size := by omega
        clear hc1 k1 hi2 hi4 hb1 hb0 hm dr hL hdt
        unfold TD.val at D1
        go_wp2_with fail
        go_region_law (first
            | (go_simp; go_at_call 37; refine D1.out.mono ?_; rintro e w5 ⟨d5, rfl, hv5, hb5⟩; have V5 := Lib.hid hv5; have B5 := Lib.hid hb5; have L5 := Lib.hid (L1.out.to hb5); clear x0 x1 x2 x3 x4 x5 x6 x7 o0 o1 o2 o3 o4 o5 o6 o7 a0 a1 a2 a3 a4 a5 a6 a7 hb5 hv5; obtain ⟨⟨o0, o1, o2, o3, o4, o5, o6, o7⟩, _⟩ := L5.out.out.all; obtain ⟨⟨x0, x1, x2, x3, x4, x5, x6, x7⟩, _⟩ := L5.out.arg.all; obtain ⟨a0, a1, a2, a3, a4, a5, a6, a7⟩ := CE.out w5 L5.out.bel; have wl5 : w.heap.size + 2 < w5.heap.size := L5.out.size; have kbl5 : kb1 < w5.heap.size := (by omega); have wl6 : w.heap.size < w5.heap.size := (by omega); unfold TD.val)
            | (refine step_appT rfl _ _ rfl K ck ds' (L5.out.kw.below (below_new _ _)).own _ 1 d5 (TB.new w5 d5) hdl rfl rfl ?_; intro K6 c6 ds6 w6 hd6 ho6 hg6 hr6; have L6 : Hid (Lw w (w6.setCell ⟨w.heap.size + 1 + 1, 7, none⟩ (.slice K6 ds6.length c6)) N _ K6 c6 ds6 _) := L1.out.push H0.out B5.out V5.out hd6.out ho6 hg6 hr6; obtain ⟨t6, u6, b6⟩ := L1.out.grew B5.out hg6; clear x0 x1 x2 x3 x4 x5 x6 x7 o0 o1 o2 o3 o4 o5 o6 o7 a0 a1 a2 a3 a4 a5 a6 a7; obtain ⟨⟨o0, o1, o2, o3, o4, o5, o6, o7⟩, f0, f1, f2, f3, f4, f5, f6, f7⟩ := u6.all; obtain ⟨⟨x0, x1, x2, x3, x4, x5, x6, x7⟩, _⟩ := t6.all; obtain ⟨a0, a1, a2, a3, a4, a5, a6, a7⟩ := CE.out w6 b6; obtain ⟨⟨_, _, _, _, _, _, _, _⟩, _⟩ := L6.out.arg.all; obtain ⟨_, _, _, _, _, _, _, _⟩ := CE.out _ L6.out.bel; clear t6 u6 b6 hg6 hr6 ho6 hd6)
            | fail)
        all_goals
          rw [← tk.out] at L6
          go_wp2_with fail
          go_roundw
          case rel => exact ⟨i + 1, K6, c6, ds6, by omega, by simp, L6⟩
          case measure => simp [intOf]; omega
      · have qi : ¬ (i : Int) < (n : Int) := by omega
        have hin : i = n := by omega
        have e1 : woL (ks.take i) = woL ks := by rw [List.take_of_length_le (by have := HN.out; omega)]
        rw [e1] at hL
        have V := Lib.hid (hL.out.kw.inS op f q lo hi HQ.out (by rw [woL_len, HN.out]; omega))
        have B := Lib.hid hL.out.bel
        obtain ⟨⟨r0, r1, r2, r3, r4, r5, r6, r7⟩, g0, g1, g2, g3, g4, g5, g6, g7⟩ := hL.out.res.all
        have wl : w.heap.size + 2 < wr.heap.size := hL.out.size
        clear e1 hin hL
        go_wp2
        refine bodyPost_ret (v := TD.val ⟨op, q, lo, hi, K, ds'.length, ck⟩) ?_ rfl ?_
        · simp [results, Try.results37, go_sem, TD.val, r0, r1, r2, r3, r4, r5, r6, r7]
        · rw [R.out]
          exact ⟨_, rfl, V.out.ends8 (by have := H0.out; rintro (h | h) <;> omega) (fun j hj => hj.elim .inl fun h => .inr (by omega)) _ _ _ _ _ _ _ _, bel8 B.out (Nat.le_succ _) _ _ _ _ _ _ _ _⟩
end Go.Proofs.Ytkljagffccommaa
namespace Go.Proofs.Ytkljagffccommaa
open Go.RowKit
set_option maxRecDepth 100000 in
set_option maxHeartbeats 8000000 in
theorem copy_any : ∀ (t : Tm) (d : TD) (N : Nat) (w : World), N ≤ w.heap.size → TS w (fun k => k < N) t d → Few t → Calls Try.prog 17 #[d.val] w (Wo w N t) := by
  intro t
  induction t using Tm.ind with
  | h op f lo hi ks ih =>
  intro d N w hN ht hf
  cases ht with
  | mk _ _ _ _ _ q A c ds hq hl hn hk hr =>
  have h500 := hf.len
  obtain ⟨n, hnn⟩ : ∃ n, ks.length = n := ⟨_, rfl⟩
  rw [hnn] at hn h500
  have L0 : Hid (Lw w (((w.alloc (.cells #[.int .i64 op, .int .u64 (uv (q 0)), .int .u64 (uv (q 1)), .int .u64 (uv (q 2)), .int .u64 (uv (q 3)), .int .i64 lo, .int .i64 hi, .slice A n c] 29)).alloc (.cells #[.int .i64 0, .int .u64 0, .int .u64 0, .int .u64 0, .int .u64 0, .int .i64 0, .int .i64 0, .slice none 0 0] 29)).alloc (.cells #[.int .i64 op, .int .u64 (uv (q 0)), .int .u64 (uv (q 1)), .int .u64 (uv (q 2)), .int .u64 (uv (q 3)), .int .i64 lo, .int .i64 hi, .slice none 0 0] 29)) N ⟨op, q, lo, hi, A, n, c⟩ none 0 [] (ks.take 0)) := by
    refine ⟨?_, nb3 _ _ _ _, ((TB.new w ⟨op, q, lo, hi, A, n, c⟩).alloc _).alloc _, ?_, ?_⟩
    · rw [List.take_zero]; exact Kw.nil _ _ _
    · have := TB.new (w.alloc (.cells #[.int .i64 op, .int .u64 (uv (q 0)), .int .u64 (uv (q 1)), .int .u64 (uv (q 2)), .int .u64 (uv (q 3)), .int .i64 lo, .int .i64 hi, .slice A n c] 29)) zT
      rw [World.size_alloc] at this
      exact this.alloc _
    · have := TB.new ((w.alloc (.cells #[.int .i64 op, .int .u64 (uv (q 0)), .int .u64 (uv (q 1)), .int .u64 (uv (q 2)), .int .u64 (uv (q 3)), .int .i64 lo, .int .i64 hi, .slice A n c] 29)).alloc (.cells #[.int .i64 0, .int .u64 0, .int .u64 0, .int .u64 0, .int .u64 0, .int .i64 0, .int .i64 0, .slice none 0 0] 29)) ⟨op, q, lo, hi, none, 0, 0⟩
      rw [World.size_alloc, World.size_alloc] at this
      exact this
  obtain ⟨⟨x0, x1, x2, x3, x4, x5, x6, x7⟩, _⟩ := L0.out.arg.all
  have IH := Lib.hid ih; have HK := Lib.hid hk; have HR := Lib.hid hr; have HL := Lib.hid hl; have HN := Lib.hid hnn; have HF := Lib.hid hf; have HQ := Lib.hid hq; have H0 := Lib.hid hN
  simp only [hnn]
  clear ih hk hr hl hnn hf hq hN
  unfold TD.val
  go_enter Try.func17, Try.ntmps17
  go_wp2_with fail
  go_loopw [4] (fun v wr => ∃ (i : Nat) (K : Option Addr) (ck : Nat) (ds' : List TD), i ≤ n ∧ v = .int .i64 (i : Nat) ∧ Hid (Lw w wr N ⟨op, q, lo, hi, A, n, c⟩ K ck ds' (ks.take i))) (fun v _ => n - (intOf v).toNat)
  case atStart => exact ⟨0, none, 0, [], Nat.zero_le _, rfl, L0⟩
  case round =>
    obtain ⟨i, K, ck, ds', hi1, rfl, hL⟩ := hrel
    clear x0 x1 x2 x3 x4 x5 x6 x7 L0
    obtain ⟨⟨x0, x1, x2, x3, x4, x5, x6, x7⟩, _⟩ := hL.out.arg.all
    obtain ⟨⟨o0, o1, o2, o3, o4, o5, o6, o7⟩, _⟩ := hL.out.out.all
    have hdl : ds'.length ≤ 1048576 := by have h1 := hL.out.kw.len; rw [List.length_take] at h1; omega
    by_cases hlt : i < n
    · have qi : (i : Int) < (n : Int) := by omega
      have hi2 : i < ks.length := by have := HN.out; omega
      have hi4 : i < ds.length := by have h1 := HL.out; omega
      obtain ⟨kb1, off1, rfl, hb0, hb1, hc1⟩ := HR.out (by omega)
      have hdt := List.getElem?_eq_getElem hi4
      obtain ⟨a0, a1, a2, a3, a4, a5, a6, a7⟩ := kid_cells hL.out.bel hb1 hc1 hdt
      have k1 := (HK.out i _ _ (List.getElem?_eq_getElem hi2) (List.getElem?_eq_getElem hi4)).keeps hL.out.bel
      have tk : Hid (ks.take (i + 1) = ks.take i ++ [ks[i]]) := (List.take_append_getElem hi2).symm
      have hm := List.getElem_mem hi2
      generalize ks[i] = kt at *
      generalize ds[i] = dt at *
      have dr : Below wr.heap.size wr wr.drew := (Below.refl _ _).drew
      have D1 := Lib.hid (IH.out kt hm dt N wr.drew (Nat.le_trans H0.out hL.out.bel.size) (k1.keeps dr) (HF.out.kid hm))
      have CE : Hid (∀ W : World, Below w.heap.size w W → _) := fun W hW => kid_cells hW hb1 hc1 hdt
      have L1 := Lib.hid (hL.out.to dr)
      have kbl : kb1 < w.heap.size := hb1
      have wl : w.heap.size + 2 < wr.heap.size := hL.out.size
      have q6 : IntKind.i64.wrap ((i : Int) + 1) = ((i + 1 : Nat) : Int) := by rw [IntWalk.i64_in _ (by omega)]; omega
      have kbl2 : kb1 < wr.heap.size := by omega
      have wl2 : w.heap.size < wr.heap.size := by omega
      clear hc1 k1 hi2 hi4 hb1 hb0 hm dr hL hdt
      unfold TD.val at D1
      go_wp2_with fail
      go_region_law (first
          | (go_simp; go_at_call 17; refine D1.out.mono ?_; rintro e w5 ⟨d5, rfl, hv5, hb5⟩; have V5 := Lib.hid hv5; have B5 := Lib.hid hb5; have L5 := Lib.hid (L1.out.to hb5); clear x0 x1 x2 x3 x4 x5 x6 x7 o0 o1 o2 o3 o4 o5 o6 o7 a0 a1 a2 a3 a4 a5 a6 a7 hb5 hv5; obtain ⟨⟨o0, o1, o2, o3, o4, o5, o6, o7⟩, _⟩ := L5.out.out.all; obtain ⟨⟨x0, x1, x2, x3, x4, x5, x6, x7⟩, _⟩ := L5.out.arg.all; obtain ⟨a0, a1, a2, a3, a4, a5, a6, a7⟩ := CE.out w5 L5.out.bel; have wl5 : w.heap.size + 2 < w5.heap.size := L5.out.size; have kbl5 : kb1 < w5.heap.size := (by omega); have wl6 : w.heap.size < w5.heap.size := (by omega); unfold TD.val)
          | (refine step_appT rfl _ _ rfl K ck ds' (L5.out.kw.below (below_new _ _)).own _ 1 d5 (TB.new w5 d5) hdl rfl rfl ?_; intro K6 c6 ds6 w6 hd6 ho6 hg6 hr6; have L6 : Hid (Lw w (w6.setCell ⟨w.heap.size + 1 + 1, 7, none⟩ (.slice K6 ds6.length c6)) N _ K6 c6 ds6 _) := L1.out.push H0.out B5.out V5.out hd6.out ho6 hg6 hr6; obtain ⟨t6, u6, b6⟩ := L1.out.grew B5.out hg6; clear x0 x1 x2 x3 x4 x5 x6 x7 o0 o1 o2 o3 o4 o5 o6 o7 a0 a1 a2 a3 a4 a5 a6 a7; obtain ⟨⟨o0, o1, o2, o3, o4, o5, o6, o7⟩, f0, f1, f2, f3, f4, f5, f6, f7⟩ := u6.all; obtain ⟨⟨x0, x1, x2, x3, x4, x5, x6, x7⟩, _⟩ := t6.all; obtain ⟨a0, a1, a2, a3, a4, a5, a6, a7⟩ := CE.out w6 b6; obtain ⟨⟨_, _, _, _, _, _, _, _⟩, _⟩ := L6.out.arg.all; obtain ⟨_, _, _, _, _, _, _, _⟩ := CE.out _ L6.out.bel; clear t6 u6 b6 hg6 hr6 ho6 hd6)
          | fail)
      all_goals
        rw [← tk.out] at L6
        go_wp2_with fail
        go_roundw
        case rel => exact ⟨i + 1, K6, c6, ds6, by omega, by simp, L6⟩
        case measure => simp [intOf]; omega
    · have qi : ¬ (i : Int) < (n : Int) := by omega
      have hin : i = n := by omega
      have e1 : ks.take i = ks := List.take_of_length_le (by have := HN.out; omega)
      rw [e1] at hL
      have V := Lib.hid (hL.out.kw.inS op f q lo hi HQ.out (by rw [HN.out]; omega))
      have B := Lib.hid hL.out.bel
      obtain ⟨⟨r0, r1, r2, r3, r4, r5, r6, r7⟩, g0, g1, g2, g3, g4, g5, g6, g7⟩ := hL.out.res.all
      have wl : w.heap.size + 2 < wr.heap.size := hL.out.size
      clear e1 hin hL
      go_wp2
      refine bodyPost_ret (v := TD.val ⟨op, q, lo, hi, K, ds'.length, ck⟩) ?_ rfl ?_
      · simp [results, Try.results17, go_sem, TD.val, r0, r1, r2, r3, r4, r5, r6, r7]
      · skip
        exact ⟨_, rfl, V.out.ends8 (by have := H0.out; rintro (h | h) <;> omega) (fun j hj => hj.elim .inl fun h => .inr (by omega)) _ _ _ _ _ _ _ _, bel8 B.out (Nat.le_succ _) _ _ _ _ _ _ _ _⟩
end Go.Proofs.Ytkljagffccommaa
namespace Go.Proofs.Ytkljagffccommaa
open Go.RowKit
inductive Ok : Tm → Prop
  | mk (op : Int) (f : Nat → Bool) (lo hi : Int) (ks : List Tm) (h8 : op = 8 → (0 ≤ lo ∧ lo ≤ 200) ∧ (-1 ≤ hi ∧ hi ≤ 200)) (hk : ∀ k ∈ ks, Ok k) : Ok (.mk op f lo hi ks)
theorem Ok.num {op : Int} {f : Nat → Bool} {lo hi : Int} {ks : List Tm} (h : Ok (.mk op f lo hi ks)) (e : op = 8) : (0 ≤ lo ∧ lo ≤ 200) ∧ (-1 ≤ hi ∧ hi ≤ 200) := by cases h with | mk _ _ _ _ _ h8 _ => exact h8 e
theorem Ok.kid {op : Int} {f : Nat → Bool} {lo hi : Int} {ks : List Tm} (h : Ok (.mk op f lo hi ks)) {k : Tm} (hk : k ∈ ks) : Ok k := by cases h with | mk _ _ _ _ _ _ h => exact h k hk
theorem woL_mem : ∀ (ks : List Tm) (k : Tm), k ∈ ks → woT k ∈ woL ks
  | [], k, h => by simp at h
  | t :: ks, k, h => by
    rw [woL]
    rcases List.mem_cons.1 h with rfl | h
    · exact List.mem_cons_self
    · exact List.mem_cons_of_mem _ (woL_mem ks k h)
theorem Rt.facts {op : Int} {f : Nat → Bool} {lo hi : Int} {ks : List Tm} (h : Rt (.mk op f lo hi ks)) : (1 ≤ op ∧ op ≤ 8) ∧ (op < 6 → ks.length = 0) ∧ (op = 6 ∨ op = 7 → 2 ≤ ks.length) ∧ (op = 8 → ks.length = 1 ∧ 0 ≤ lo ∧ lo ≤ 200 ∧ -1 ≤ hi ∧ hi ≤ 200 ∧ (0 ≤ hi → lo ≤ hi)) := by cases h with | mk _ _ _ _ _ h _ => exact h
theorem Rt.kid {op : Int} {f : Nat → Bool} {lo hi : Int} {ks : List Tm} (h : Rt (.mk op f lo hi ks)) {k : Tm} (hk : k ∈ ks) : Rt k := by cases h with | mk _ _ _ _ _ _ h => exact h k hk
theorem Rt.ok (t : Tm) (h : Rt (woT t)) : Ok t := by
  induction t using Tm.ind with
  | h op f lo hi ks ih =>
    by_cases h9 : op = 9
    · rw [woT, if_pos h9] at h
      have h0 : ks = [] := List.eq_nil_of_length_eq_zero (h.facts.2.1 (by omega))
      subst h0
      exact .mk _ _ _ _ _ (fun e => by omega) (fun k hk => by simp at hk)
    · rw [woT, if_neg h9] at h
      refine .mk _ _ _ _ _ (fun e => ?_) (fun k hk => ih k hk (h.kid (woL_mem ks k hk)))
      have := h.facts.2.2.2 e
      omega
set_option maxRecDepth 100000 in
theorem right7_any (t : Tm) (d : TD) (w : World) (ht : TR w t d) (hf : Few t) : Calls Try.prog 19 #[d.val] w (fun e w' => ∃ b : Bool, e = .returned (.bool b) ∧ (b = true → Rt (woT t)) ∧ Below w.heap.size w w') := by
  have nb := below_new w (.cells d.cells 29)
  have h1 := (ht.keeps nb).inS
  have D1 := Lib.hid (without_any t d (w.alloc (.cells d.cells 29)).heap.size _ (Nat.le_refl _) h1 hf)
  have B1 := Lib.hid nb
  obtain ⟨⟨x0, x1, x2, x3, x4, x5, x6, x7⟩, _⟩ := (TB.new w d).all
  clear nb h1
  unfold TD.val TD.cells at *
  go_enter Try.func19, Try.ntmps19
  go_wp2_with fail
  refine D1.out.mono ?_
  rintro e w2 ⟨d2, rfl, hv2, hb2⟩
  have B2 := Lib.hid (B1.out.trans (hb2.mono B1.out.size))
  have D2 := Lib.hid (right_any (woT t) d2 w2 hv2.tr)
  clear D1 B1 hb2 hv2 x0 x1 x2 x3 x4 x5 x6 x7
  unfold TD.val at *
  go_wp2_with fail
  refine D2.out.mono ?_
  rintro e w3 ⟨b, rfl, hb, hb3⟩
  have H := Lib.hid hb
  have B3 := Lib.hid (B2.out.trans (hb3.mono B2.out.size))
  clear D2 B2 hb3 hb
  go_wp2
  go_ret
  exact ⟨b, rfl, H.out, B3.out⟩
theorem isK0 : IsK noB (fun _ => 0#64) := isK_zero
/-- a term of one kid -/
theorem TR.one {w : World} {t : Tm} {d : TD} {b : Nat} (h : TR w t d) (hb : TB w b d) (op lo hi : Int) : TR w (.mk op noB lo hi [t]) ⟨op, fun _ => 0#64, lo, hi, some ⟨b, 0, none⟩, 1, 1⟩ := by
  refine .mk op noB lo hi [t] _ _ 1 [d] isK0 rfl (by simp) (fun i t' d' h1 h2 => ?_) fun _ => ⟨b, 0, rfl, hb.lt, fun i d' h1 j hj => ?_⟩
  · cases i with
    | zero => simp at h1 h2; subst h1; subst h2; exact h
    | succ i => simp at h1
  · cases i with
    | zero =>
      simp at h1; subst h1
      rw [cell_of_row w b _ _ 29 (0, 0) hb]
      simp
    | succ i => simp at h1
/-- a term of two kids -/
theorem TR.pair {w : World} {t u : Tm} {d e : TD} {b : Nat} (h : TR w t d) (h' : TR w u e) (hb : w.heap[b]? = some (.cells (d.cells ++ e.cells) 29 (0, 0))) (op lo hi : Int) : TR w (.mk op noB lo hi [t, u]) ⟨op, fun _ => 0#64, lo, hi, some ⟨b, 0, none⟩, 2, 2⟩ := by
  have hlt : b < w.heap.size := by
    rcases Nat.lt_or_ge b w.heap.size with h | h
    · exact h
    · rw [Array.getElem?_eq_none h] at hb; cases hb
  refine .mk op noB lo hi [t, u] _ _ 2 [d, e] isK0 rfl (by simp) (fun i t' d' h1 h2 => ?_) fun _ => ⟨b, 0, rfl, hlt, fun i d' h1 j hj => ?_⟩
  · match i with
    | 0 => simp at h1 h2; subst h1; subst h2; exact h
    | 1 => simp at h1 h2; subst h1; subst h2; exact h'
    | i + 2 => simp at h1
  · have hd : d.cells.size = 8 := rfl
    match i with
    | 0 =>
      simp at h1; subst h1
      rw [cell_of_row w b _ _ 29 (0, 0) hb, Array.getElem?_append_left (by omega)]
      simp
    | 1 =>
      simp at h1; subst h1
      rw [cell_of_row w b _ _ 29 (0, 0) hb, Array.getElem?_append_right (by omega), hd]
      congr 1
      omega
    | i + 2 => simp at h1
end Go.Proofs.Ytkljagffccommaa
