/- Rows of tokens that are only read; a row of items as a list; rows of terms that begin with an empty block. What the document's cat and Alt go through: a row's units, brackets in pairs, tokens parted at bars: pure. -/
import Derived.Test.YtnaecagmcpndhaaZ2
import Derived.Test.YtnaecagmcpndhaaZ3
namespace Go.Proofs.Ytnaecagmcpndhaa
open Go.RowKit
/-- a row of tokens lies there, wherever -/
def TkR (w : World) (A : Option Addr) (ds : List KD) : Prop := 0 < ds.length → ∃ b off, A = some ⟨b, off, none⟩ ∧ b < w.heap.size ∧ ∀ (i : Nat) (d : KD), ds[i]? = some d → ∀ j, j < 8 → w.cell? ⟨b, off + i * 8 + j, none⟩ = d.cells[j]?
theorem TkR.below {w w' : World} {A : Option Addr} {ds : List KD} (h : TkR w A ds) (hb : Below w.heap.size w w') : TkR w' A ds := fun h0 => by
  obtain ⟨b, off, e, hlt, hc⟩ := h h0
  exact ⟨b, off, e, Nat.lt_of_lt_of_le hlt hb.size, fun i d hd j hj => (World.cell?_of_block (a := ⟨b, off + i * 8 + j, none⟩) (hb.block b hlt)).trans (hc i d hd j hj)⟩
theorem TkR.keeps {w w' : World} {A : Option Addr} {ds : List KD} (h : TkR w A ds) (hs : w.heap.size ≤ w'.heap.size) (hb : ∀ k, k < w.heap.size → ow A = some k → w'.heap[k]? = w.heap[k]?) : TkR w' A ds := fun h0 => by
  obtain ⟨b, off, rfl, hlt, hc⟩ := h h0
  exact ⟨b, off, rfl, Nat.lt_of_lt_of_le hlt hs, fun i d hd j hj => (World.cell?_of_block (a := ⟨b, off + i * 8 + j, none⟩) (hb b hlt rfl)).trans (hc i d hd j hj)⟩
theorem OwnK.tkr {w : World} {A : Option Addr} {c : Nat} {ds : List KD} (h : OwnK w A c ds) : TkR w A ds := fun h0 => by
  obtain ⟨b, e, hr⟩ := h.row h0
  refine ⟨b, 0, e, h.lt (by rw [e]; rfl), fun i d hd j hj => ?_⟩
  have := hr.cell hd j hj
  rw [Nat.zero_add]; exact this
/-- a piece of a row -/
theorem TkR.sub {w : World} {b off : Nat} {ds : List KD} (h : TkR w (some ⟨b, off, none⟩) ds) (k m : Nat) : TkR w (some ⟨b, off + k * 8, none⟩) ((ds.drop k).take m) := fun h0 => by
  have hl : 0 < ds.length := by
    rcases ds with _ | ⟨x, r⟩
    · simp at h0
    · simp
  obtain ⟨b', off', e, hlt, hc⟩ := h hl
  injection e with e
  injection e with e1 e2
  subst e1; subst e2
  refine ⟨b, off + k * 8, rfl, hlt, fun i d hd j hj => ?_⟩
  have hd2 : ds[k + i]? = some d := by
    rw [List.getElem?_take] at hd
    split at hd
    · rw [List.getElem?_drop] at hd; exact hd
    · cases hd
  have := hc (k + i) d hd2 j hj
  rw [show off + k * 8 + i * 8 + j = off + (k + i) * 8 + j by omega]
  exact this
/-- a row's items, from the left -/
def Ro.items : Ro → List It
  | .nil => []
  | .snoc r x => r.items ++ [x]
theorem Ro.toks_items : ∀ r : Ro, r.toks = r.items.flatMap It.toks
  | .nil => rfl
  | .snoc r x => by rw [Ro.toks, Ro.items, List.flatMap_append, Ro.toks_items r]; simp
theorem Ro.terms_items : ∀ r : Ro, r.terms = r.items.map It.term
  | .nil => rfl
  | .snoc r x => by rw [Ro.terms, Ro.items, List.map_append, Ro.terms_items r]; rfl
theorem Ro.wf_items : ∀ (r : Ro), r.wf → ∀ x ∈ r.items, x.wf
  | .nil, _, x, hx => by simp [Ro.items] at hx
  | .snoc r y, h, x, hx => by
    rw [Ro.items] at hx
    rcases List.mem_append.1 hx with e | e
    · exact Ro.wf_items r h.1 x e
    · simp at e; rw [e]; exact h.2
/-- an alternative's rows, from the left -/
def Al.rows : Al → List Ro
  | .one r => [r]
  | .bar a _ r => a.rows ++ [r]
theorem Al.terms_rows : ∀ a : Al, a.terms = a.rows.map fun r => catT r.terms
  | .one r => rfl
  | .bar a b r => by rw [Al.terms, Al.rows, List.map_append, Al.terms_rows a]; rfl
/-- brackets of tokens are in pairs: how deep a list of tokens ends, from d on -/
def dep : List Tk → Nat → Nat
  | [], d => d
  | t :: r, d => dep r (deepR d t.kind)
theorem dep_app (a b : List Tk) (d : Nat) : dep (a ++ b) d = dep b (dep a d) := by
  induction a generalizing d with
  | nil => rfl
  | cons t r ih => rw [List.cons_append, dep, dep, ih]
theorem dep_q (q : Option Tk) (h : qOk q) (d : Nat) : dep q.toList d = d := by
  cases q with
  | none => rfl
  | some q => show deepR d q.kind = d; unfold deepR; rw [if_neg (by have := h.1; omega), if_neg (by have := h.1; omega)]
mutual
theorem It.dep (x : It) (h : x.wf) (d : Nat) : Ytnaecagmcpndhaa.dep x.toks d = d := by
  cases x with
  | leaf t q =>
    rw [It.toks, Ytnaecagmcpndhaa.dep]
    have e : deepR d t.kind = d := by unfold deepR; have := h.1; rw [if_neg (by omega), if_neg (by omega)]
    rw [e]; exact dep_q q h.2 d
  | grp o a c q =>
    rw [It.toks, Ytnaecagmcpndhaa.dep, dep_app]
    have e1 : deepR d o.kind = d + 1 := by unfold deepR; rw [if_pos h.1]
    rw [e1, Al.dep a h.2.1 (d + 1), Ytnaecagmcpndhaa.dep]
    have e2 : deepR (d + 1) c.kind = d := by unfold deepR; rw [if_neg (by have := h.2.2.1; omega), if_pos h.2.2.1]; omega
    rw [e2]; exact dep_q q h.2.2.2 d
theorem Al.dep (a : Al) (h : a.wf) (d : Nat) : Ytnaecagmcpndhaa.dep a.toks d = d := by
  cases a with
  | one r => rw [Al.toks]; exact Ro.dep r h d
  | bar a b r =>
    rw [Al.toks, dep_app, Al.dep a h.1 d, Ytnaecagmcpndhaa.dep]
    have e : deepR d b.kind = d := by unfold deepR; have := h.2.1; rw [if_neg (by omega), if_neg (by omega)]
    rw [e]; exact Ro.dep r h.2.2 d
theorem Ro.dep (r : Ro) (h : r.wf) (d : Nat) : Ytnaecagmcpndhaa.dep r.toks d = d := by
  cases r with
  | nil => rw [Ro.toks]; rfl
  | snoc r x => rw [Ro.toks, dep_app, Ro.dep r h.1 d]; exact It.dep x h.2 d
end
theorem ownt_empty (w : World) : OwnT (w.alloc (.cells #[] 29)) (some ⟨w.heap.size, 0, none⟩) 0 [] := by
  have := World.ownsRow_lit (base := 0) (e := 29) (size := 8) w #[] 0 (Nat.zero_le _) (by unfold maxLen; omega) (by rfl)
  exact this
end Go.Proofs.Ytnaecagmcpndhaa
namespace Go.Proofs.Ytnaecagmcpndhaa
open Go.RowKit
inductive Un where
  | leaf (t : Tk)
  | quant (q : Tk)
  | grp (o : Tk) (a : Al) (c : Tk)
def Un.toks : Un → List Tk
  | .leaf t => [t]
  | .quant q => [q]
  | .grp o a c => o :: (a.toks ++ [c])
def It.units : It → List Un
  | .leaf t q => .leaf t :: q.toList.map .quant
  | .grp o a c q => .grp o a c :: q.toList.map .quant
def qL (q : Tk) (ts : List Tm) : List Tm := ts.dropLast ++ ts.getLast?.toList.map (fun t => .mk 8 noB q.lo q.hi [t])
theorem qL_snoc (q : Tk) (ts : List Tm) (t : Tm) : qL q (ts ++ [t]) = ts ++ [.mk 8 noB q.lo q.hi [t]] := by simp [qL]
def foldU : List Un → List Tm → List Tm
  | [], ts => ts
  | .leaf t :: r, ts => foldU r (ts ++ [leafT t])
  | .grp _ a _ :: r, ts => foldU r (ts ++ [altT a.terms])
  | .quant q :: r, ts => foldU r (qL q ts)
def UOk : List Un → Bool → Prop
  | [], _ => True
  | .leaf t :: r, _ => (t.kind = 115 ∨ t.kind = 46 ∨ t.kind = 94 ∨ t.kind = 36) ∧ UOk r true
  | .grp o a c :: r, _ => o.kind = 40 ∧ a.wf ∧ c.kind = 41 ∧ UOk r true
  | .quant q :: r, b => b = true ∧ q.kind = 113 ∧ UOk r true
def unT (us : List Un) : List Tk := us.flatMap Un.toks
theorem unT_app (a b : List Un) : unT (a ++ b) = unT a ++ unT b := by unfold unT; rw [List.flatMap_append]
theorem It.unT (x : It) : Ytnaecagmcpndhaa.unT x.units = x.toks := by
  cases x with
  | leaf t q => cases q <;> simp [Ytnaecagmcpndhaa.unT, It.units, It.toks, Un.toks]
  | grp o a c q => cases q <;> simp [Ytnaecagmcpndhaa.unT, It.units, It.toks, Un.toks]
theorem It.foldU (x : It) (r : List Un) (ts : List Tm) : Ytnaecagmcpndhaa.foldU (x.units ++ r) ts = Ytnaecagmcpndhaa.foldU r (ts ++ [x.term]) := by
  cases x with
  | leaf t q =>
    cases q with
    | none => rw [It.term, qT]; rfl
    | some q => rw [It.term, qT]; show Ytnaecagmcpndhaa.foldU r (qL q (ts ++ [leafT t])) = _; rw [qL_snoc]
  | grp o a c q =>
    cases q with
    | none => rw [It.term, qT]; rfl
    | some q => rw [It.term, qT]; show Ytnaecagmcpndhaa.foldU r (qL q (ts ++ [altT a.terms])) = _; rw [qL_snoc]
theorem It.uok (x : It) (h : x.wf) (r : List Un) (hr : UOk r true) (b : Bool) : UOk (x.units ++ r) b := by
  cases x with
  | leaf t q =>
    cases q with
    | none => exact ⟨h.1, hr⟩
    | some q => exact ⟨h.1, rfl, h.2.1, hr⟩
  | grp o a c q =>
    cases q with
    | none => exact ⟨h.1, h.2.1, h.2.2.1, hr⟩
    | some q => exact ⟨h.1, h.2.1, h.2.2.1, rfl, h.2.2.2.1, hr⟩
def Ro.units (r : Ro) : List Un := r.items.flatMap It.units
theorem items_units (xs : List It) (h : ∀ x ∈ xs, x.wf) : unT (xs.flatMap It.units) = xs.flatMap It.toks ∧ (∀ ts, foldU (xs.flatMap It.units) ts = ts ++ xs.map It.term) ∧ ∀ b, UOk (xs.flatMap It.units) b := by
  induction xs with
  | nil => exact ⟨rfl, fun ts => by simp [foldU], fun b => trivial⟩
  | cons x r ih =>
    obtain ⟨h1, h2, h3⟩ := ih fun y hy => h y (by simp [hy])
    refine ⟨?_, fun ts => ?_, fun b => ?_⟩
    · rw [List.flatMap_cons, List.flatMap_cons, unT_app, h1, It.unT]
    · rw [List.flatMap_cons, It.foldU, h2]; simp
    · rw [List.flatMap_cons]; exact It.uok x (h x (by simp)) _ (h3 true) b
theorem Ro.units_ok (r : Ro) (h : r.wf) : unT r.units = r.toks ∧ foldU r.units [] = r.terms ∧ UOk r.units false := by
  obtain ⟨h1, h2, h3⟩ := items_units r.items (Ro.wf_items r h)
  exact ⟨by unfold Ro.units; rw [h1, Ro.toks_items], by unfold Ro.units; rw [h2, Ro.terms_items]; simp, h3 false⟩

/-- where brackets close: how many tokens on -/
def skipF : List Tk → Nat → Nat → Option Nat
  | _, 0, k => some k
  | [], _ + 1, _ => none
  | t :: r, d + 1, k => skipF r (deepR (d + 1) t.kind) (k + 1)
/-- parted at the bars that are in no group -/
def partsF : List Tk → Nat → List Tk → List (List Tk)
  | [], _, cur => [cur]
  | t :: r, d, cur => if t.kind = 124 ∧ deepR d t.kind = 0 then cur :: partsF r (deepR d t.kind) [] else partsF r (deepR d t.kind) (cur ++ [t])
/-- no bracket closes but one that was opened -/
def DOk : List Tk → Nat → Prop
  | [], _ => True
  | t :: r, d => (t.kind = 41 → 0 < d) ∧ DOk r (deepR d t.kind)
theorem deepR_40 (d : Nat) : deepR d 40 = d + 1 := rfl
theorem deepR_41 (d : Nat) : deepR d 41 = d - 1 := rfl
theorem deepR_no {d k : Nat} (h1 : k ≠ 40) (h2 : k ≠ 41) : deepR d k = d := by unfold deepR; rw [if_neg h1, if_neg h2]
theorem skip_q (q : Option Tk) (h : qOk q) (rest : List Tk) (d k : Nat) : skipF (q.toList ++ rest) (d + 1) k = skipF rest (d + 1) (k + q.toList.length) := by
  cases q with
  | none => rfl
  | some q => show skipF rest (deepR (d + 1) q.kind) (k + 1) = _; rw [h.1]; rfl
mutual
theorem It.skip (x : It) (h : x.wf) (rest : List Tk) (d k : Nat) : skipF (x.toks ++ rest) (d + 1) k = skipF rest (d + 1) (k + x.toks.length) := by
  cases x with
  | leaf t q =>
    rw [It.toks, List.cons_append, skipF, deepR_no (by have := h.1; omega) (by have := h.1; omega), skip_q q h.2, List.length_cons]
    congr 1; omega
  | grp o a c q =>
    rw [It.toks, List.cons_append, skipF, h.1, deepR_40, List.append_assoc, Al.skip a h.2.1, List.cons_append, skipF, h.2.2.1, deepR_41, Nat.add_sub_cancel, skip_q q h.2.2.2]
    congr 1; simp; omega
theorem Al.skip (a : Al) (h : a.wf) (rest : List Tk) (d k : Nat) : skipF (a.toks ++ rest) (d + 1) k = skipF rest (d + 1) (k + a.toks.length) := by
  cases a with
  | one r => rw [Al.toks]; exact Ro.skip r h rest d k
  | bar a b r =>
    rw [Al.toks, List.append_assoc, Al.skip a h.1, List.cons_append, skipF, deepR_no (by have := h.2.1; omega) (by have := h.2.1; omega), Ro.skip r h.2.2]
    congr 1; simp; omega
theorem Ro.skip (r : Ro) (h : r.wf) (rest : List Tk) (d k : Nat) : skipF (r.toks ++ rest) (d + 1) k = skipF rest (d + 1) (k + r.toks.length) := by
  cases r with
  | nil => rw [Ro.toks]; rfl
  | snoc r x =>
    rw [Ro.toks, List.append_assoc, Ro.skip r h.1, It.skip x h.2]
    congr 1; simp; omega
end
theorem skip_close (a : Al) (h : a.wf) (c : Tk) (hc : c.kind = 41) (rest : List Tk) (k : Nat) : skipF (a.toks ++ c :: rest) 1 k = some (k + a.toks.length + 1) := by
  rw [Al.skip a h, skipF, hc, deepR_41, Nat.add_sub_cancel, skipF]
theorem dok_q (q : Option Tk) (h : qOk q) (rest : List Tk) (d : Nat) (hr : DOk rest d) : DOk (q.toList ++ rest) d := by
  cases q with
  | none => exact hr
  | some q => exact ⟨fun e => by have := h.1; omega, by show DOk rest (deepR d q.kind); rw [h.1]; exact hr⟩
mutual
theorem It.dok (x : It) (h : x.wf) (rest : List Tk) (d : Nat) (hr : DOk rest d) : DOk (x.toks ++ rest) d := by
  cases x with
  | leaf t q =>
    rw [It.toks, List.cons_append, DOk, deepR_no (by have := h.1; omega) (by have := h.1; omega)]
    exact ⟨fun e => by have := h.1; omega, dok_q q h.2 rest d hr⟩
  | grp o a c q =>
    rw [It.toks, List.cons_append, DOk, h.1, deepR_40, List.append_assoc]
    refine ⟨fun e => by omega, Al.dok a h.2.1 _ _ ?_⟩
    rw [List.cons_append, DOk, h.2.2.1, deepR_41, Nat.add_sub_cancel]
    exact ⟨fun _ => by omega, dok_q q h.2.2.2 rest d hr⟩
theorem Al.dok (a : Al) (h : a.wf) (rest : List Tk) (d : Nat) (hr : DOk rest d) : DOk (a.toks ++ rest) d := by
  cases a with
  | one r => rw [Al.toks]; exact Ro.dok r h rest d hr
  | bar a b r =>
    rw [Al.toks, List.append_assoc]
    refine Al.dok a h.1 _ _ ?_
    rw [List.cons_append, DOk, deepR_no (by have := h.2.1; omega) (by have := h.2.1; omega)]
    exact ⟨fun e => by have := h.2.1; omega, Ro.dok r h.2.2 rest d hr⟩
theorem Ro.dok (r : Ro) (h : r.wf) (rest : List Tk) (d : Nat) (hr : DOk rest d) : DOk (r.toks ++ rest) d := by
  cases r with
  | nil => rw [Ro.toks]; exact hr
  | snoc r x =>
    rw [Ro.toks, List.append_assoc]
    exact Ro.dok r h.1 _ _ (It.dok x h.2 rest d hr)
end
theorem parts_q (q : Option Tk) (h : qOk q) (rest : List Tk) (d : Nat) (cur : List Tk) : partsF (q.toList ++ rest) d cur = partsF rest d (cur ++ q.toList) := by
  cases q with
  | none => simp
  | some q =>
    show partsF (q :: rest) d cur = _
    rw [partsF, if_neg (by have := h.1; omega), h.1]; rfl
mutual
theorem It.parts (x : It) (h : x.wf) (rest : List Tk) (d : Nat) (cur : List Tk) : partsF (x.toks ++ rest) d cur = partsF rest d (cur ++ x.toks) := by
  cases x with
  | leaf t q =>
    rw [It.toks, List.cons_append, partsF, if_neg (by have := h.1; omega), deepR_no (by have := h.1; omega) (by have := h.1; omega), parts_q q h.2]
    simp
  | grp o a c q =>
    rw [It.toks, List.cons_append, partsF, if_neg (by have := h.1; omega), h.1, deepR_40, List.append_assoc, Al.parts a h.2.1, List.cons_append, partsF, if_neg (by have := h.2.2.1; omega), h.2.2.1, deepR_41, Nat.add_sub_cancel, parts_q q h.2.2.2]
    simp
theorem Al.parts (a : Al) (h : a.wf) (rest : List Tk) (d : Nat) (cur : List Tk) : partsF (a.toks ++ rest) (d + 1) cur = partsF rest (d + 1) (cur ++ a.toks) := by
  cases a with
  | one r => rw [Al.toks]; exact Ro.parts r h rest (d + 1) cur
  | bar a b r =>
    have e : deepR (d + 1) b.kind = d + 1 := deepR_no (by have := h.2.1; omega) (by have := h.2.1; omega)
    rw [Al.toks, List.append_assoc, Al.parts a h.1, List.cons_append, partsF, e, if_neg (by omega), Ro.parts r h.2.2]
    simp
theorem Ro.parts (r : Ro) (h : r.wf) (rest : List Tk) (d : Nat) (cur : List Tk) : partsF (r.toks ++ rest) d cur = partsF rest d (cur ++ r.toks) := by
  cases r with
  | nil => rw [Ro.toks]; simp
  | snoc r x =>
    rw [Ro.toks, List.append_assoc, Ro.parts r h.1, It.parts x h.2]
    simp
end
theorem al_parts : ∀ (a : Al) (_ : a.wf) (rest : List Tk), ∃ (init : List Ro) (last : Ro), a.rows = init ++ [last] ∧ partsF (a.toks ++ rest) 0 [] = init.map Ro.toks ++ partsF rest 0 last.toks
  | .one r, h, rest => ⟨[], r, rfl, by rw [Al.toks, Ro.parts r h]; simp⟩
  | .bar a b r, h, rest => by
    obtain ⟨init, last, e1, e2⟩ := al_parts a h.1 (b :: (r.toks ++ rest))
    have e : deepR 0 b.kind = 0 := deepR_no (by have := h.2.1; omega) (by have := h.2.1; omega)
    refine ⟨init ++ [last], r, by rw [Al.rows, e1], ?_⟩
    rw [Al.toks, List.append_assoc, List.cons_append, e2, partsF, if_pos ⟨h.2.1, e⟩, e, Ro.parts r h.2.2]
    simp
theorem Al.parts_rows (a : Al) (h : a.wf) : partsF a.toks 0 [] = a.rows.map Ro.toks := by
  obtain ⟨init, last, e1, e2⟩ := al_parts a h []
  rw [List.append_nil] at e2
  rw [e2, e1, partsF]
  simp
theorem Al.wf_rows : ∀ (a : Al), a.wf → ∀ r ∈ a.rows, r.wf ∧ r.toks.length ≤ a.toks.length
  | .one r, h, x, hx => by
    rw [Al.rows] at hx; simp at hx; subst hx
    exact ⟨h, by rw [Al.toks]; exact Nat.le_refl _⟩
  | .bar a b r, h, x, hx => by
    rw [Al.rows] at hx
    rcases List.mem_append.1 hx with e | e
    · have := Al.wf_rows a h.1 x e
      exact ⟨this.1, by rw [Al.toks]; simp; omega⟩
    · simp at e; subst e
      exact ⟨h.2.2, by rw [Al.toks]; simp; omega⟩
end Go.Proofs.Ytnaecagmcpndhaa
