/- Rows of bytes that a call owns, pens, copies. -/
import Derived.Test.YtmjhmjbbfklbdaaP2
import Derived.Maps.AppendAt
import Derived.Deep.AppendLies
import Derived.Deep.Onto
import Derived.RegionTactic
import Derived.OwnWalk
namespace Go.Proofs.Ytmjhmjbbfklbdaa
open Go.RowKit

def ow (A : Option Addr) : Option Nat := A.map (·.block)
theorem ow_own (A : Option Addr) (n c : Nat) : (Value.slice A n c).ownBlock = ow A := by cases A <;> rfl
/-- the row of bytes l, all of a block, is that slice's alone -/
def Own (w : World) (A : Option Addr) (c : Nat) (l : List Nat) : Prop := w.ownsRow 0 5 1 (.slice A l.length c) l.length (yvals l) ∧ (∀ x ∈ l, x < 256) ∧ (A = none → c = 0)
/-- all old blocks but g and the row r are as they were -/
structure Fr (w w' : World) (g : Nat) (r : Option Nat) : Prop where
  os : w'.os = w.os
  tape : w'.tape = w.tape
  output : w'.output = w.output
  size : w.heap.size ≤ w'.heap.size
  block : ∀ k, k < w.heap.size → k ≠ g → some k ≠ r → w'.heap[k]? = w.heap[k]?
/-- a row's block is the old one, or a new one -/
def Nr (w : World) (A A' : Option Addr) : Prop := ow A' = ow A ∨ ∃ k, ow A' = some k ∧ w.heap.size ≤ k
section
variable {w w1 w' : World} {g : Nat} {r : Option Nat} {A A' A2 : Option Addr} {c c' : Nat} {l : List Nat}
theorem Fr.refl (w : World) (g : Nat) (r : Option Nat) : Fr w w g r := ⟨rfl, rfl, rfl, Nat.le_refl _, fun _ _ _ _ => rfl⟩
theorem Fr.drew (h : Fr w w' g r) : Fr w w'.drew g r := ⟨h.os, h.tape, h.output, h.size, h.block⟩
theorem Fr.drewN (h : Fr w w' g r) (n : Nat) : Fr w (w'.drewN n) g r := ⟨h.os, h.tape, h.output, h.size, h.block⟩
theorem Fr.alloc (h : Fr w w' g r) (o : Obj) : Fr w (w'.alloc o) g r := ⟨h.os, h.tape, h.output, Nat.le_trans h.size (by simp), fun k hk hg hr => (Below.heap_alloc w' o k (Nat.lt_of_lt_of_le hk h.size)).trans (h.block k hk hg hr)⟩
theorem Fr.set_ (h : Fr w w' g r) (o : Nat) (u : Value) : Fr w (w'.setCell ⟨g, o, none⟩ u) g r := ⟨h.os, h.tape, h.output, by simpa [World.setCell] using h.size, fun k hk hg hr => (Below.heap_setCell w' ⟨g, o, none⟩ u k hg).trans (h.block k hk hg hr)⟩
theorem Fr.grown {row : Option Nat} (h : Fr w w' g r) (hg : w'.grownBy w1 row) (hr : row = r ∨ ∃ k, row = some k ∧ w.heap.size ≤ k) : Fr w w1 g r :=
  ⟨hg.os.trans h.os, hg.tape.trans h.tape, hg.output.trans h.output, Nat.le_trans h.size hg.size, fun k hk h1 h2 => (hg.block k (Nat.lt_of_lt_of_le hk h.size) (by
    rcases hr with rfl | ⟨j, rfl, hj⟩
    · exact h2
    · intro e; injection e with e; omega)).trans (h.block k hk h1 h2)⟩
theorem Fr.below {B : Nat} (h : Fr w w' g r) (hg : B ≤ g) (hr : ∀ k, r = some k → B ≤ k) (hB : B ≤ w.heap.size) : Below B w w' :=
  ⟨h.os, h.tape, h.output, h.size, fun k hk => h.block k (by omega) (by omega) (fun e => by have := hr k e.symm; omega)⟩
theorem Nr.refl (w : World) (A : Option Addr) : Nr w A A := .inl rfl
theorem Nr.step {w0 : World} (h : Nr w0 A A2) (h2 : Nr w A2 A') (hs : w0.heap.size ≤ w.heap.size) : Nr w0 A A' := by
  rcases h2 with e | ⟨k, e, hk⟩
  · rcases h with e2 | ⟨j, e2, hj⟩
    · exact .inl (e.trans e2)
    · exact .inr ⟨j, e.trans e2, hj⟩
  · exact .inr ⟨k, e, by omega⟩
theorem Own.bts (h : Own w A c l) : Bts w A l := bts_owns (mem_bn h.2.1) rfl h.1
theorem Own.lt (h : Own w A c l) {k : Nat} (e : ow A = some k) : k < w.heap.size := (h.1.lt k (by rw [ow_own, e])).2
theorem Own.cap (h : Own w A c l) : l.length ≤ c := by
  rcases h.1.2 with ⟨e, h0⟩ | ⟨g, cap, cur, e, _, _, hc, _⟩
  · omega
  · injection e with e1 e2 e3; omega
theorem Own.kept {row : Option Nat} (h : Own w A c l) (hg : w.grownBy w' row) (hne : ow A = none ∨ ow A ≠ row) : Own w' A c l := ⟨h.1.kept hg (by rw [ow_own]; exact hne), h.2⟩
theorem Own.alloc (h : Own w A c l) (o : Obj) : Own (w.alloc o) A c l := ⟨h.1.alloc o, h.2⟩
theorem Own.drew (h : Own w A c l) : Own w.drew A c l := h
theorem Own.drewN (h : Own w A c l) (n : Nat) : Own (w.drewN n) A c l := h
theorem Own.blocks (h : Own w A c l) (hb : ∀ k, ow A = some k → w'.heap[k]? = w.heap[k]?) (hs : w.heap.size ≤ w'.heap.size) : Own w' A c l := by
  refine ⟨⟨h.1.1, ?_⟩, h.2⟩
  rcases h.1.2 with ⟨e, h0⟩ | ⟨g, cap, cur, e, h1, h2, h3⟩
  · exact .inl ⟨e, h0⟩
  · refine .inr ⟨g, cap, cur, e, h1, ?_, h3⟩
    injection e with e1
    rw [hb g (by rw [e1]; rfl)]; exact h2
theorem Own.ne (h : Own w A c l) {g : Nat} {t : TypeId} {cs : Array Value} {m : Nat × Nat} (hg : w.heap[g]? = some (.cells cs t m)) (ht : t ≠ 5) : ow A ≠ some g := by
  rcases h.1.2 with ⟨e, h0⟩ | ⟨g', cap, cur, e, h1, h2, h3⟩
  · injection e with e1; rw [e1]; intro h; cases h
  · injection e with e1
    rw [e1]
    intro e
    have : g' = g := by injection e
    subst this
    rw [h2] at hg
    injection hg with hg
    injection hg with _ hg
    exact ht hg.symm
theorem Own.set_far (h : Own w A c l) {p : Addr} (hp : ow A ≠ some p.block) (u : Value) : Own (w.setCell p u) A c l :=
  h.blocks (fun k hk => Below.heap_setCell w p u k (fun e => hp (by rw [hk, e]))) (by simp [World.setCell])
theorem Own.below (h : Own w A c l) (hb : Below w.heap.size w w') : Own w' A c l := h.blocks (fun k hk => hb.block k (h.lt hk)) hb.size
theorem Own.fr (h : Own w A c l) (hf : Fr w w' g r) (h1 : ow A ≠ some g) (h2 : ow A = none ∨ ow A ≠ r) : Own w' A c l :=
  h.blocks (fun k hk => hf.block k (h.lt hk) (fun e => h1 (by rw [hk, e])) (fun e => by rcases h2 with h2 | h2; (rw [h2] at hk; cases hk); exact h2 (by rw [hk, e]))) hf.size
end

theorem own_form {w : World} {n : Nat} {v : Value} {l : List Nat} (hn : n = l.length) (h : w.ownsRow 0 5 1 v n (yvals l)) : ∃ A c, v = .slice A l.length c ∧ (A = none → c = 0) := by
  subst hn
  rcases h.2 with ⟨e, h0⟩ | ⟨g, cap, cur, e, _⟩
  · exact ⟨none, 0, by rw [e, h0], fun _ => rfl⟩
  · exact ⟨_, cap, e, fun h => by cases h⟩

/-- bytes laid behind a row of the call's own -/
theorem appB {ops : Array Oper} {rest : List Oper} {o : Oper} {a : Act} {Q : Exit → Act → World → Prop} {w : World} (hgd : o.guard = none) (s x : Operand)
    (ho : o.op = .call { callee := .builtin .append, args := #[s, x], argTypes := #[25, 25] })
    (A : Option Addr) (c : Nat) (l : List Nat) (hown : Own w A c l) (A2 : Option Addr) (c2 : Nat) (bs : List Nat) (hx : Bts w A2 bs) (hA : A2 = none → c2 = 0) (lx : l.length + bs.length ≤ 140737488355328)
    (hs : a.eval s = .slice A l.length c) (hxx : a.eval x = .slice A2 bs.length c2)
    (h : ∀ A' c' l' w', Hid (l' = l ++ bs) → Own w' A' c' l' → w.grownBy w' (ow A) → Nr w A A' → wpList Try.prog ops Q rest (a.put o.dst (.slice A' l'.length c')) w') :
    wpList Try.prog ops Q (o :: rest) a w := by
  obtain ⟨i0, hi0, hz0, hz1, hz2⟩ := info_parts Try.info5
  have hmem : ∀ x ∈ l ++ bs, x < 256 := fun x hm => by
    rcases List.mem_append.1 hm with h | h
    · exact hown.2.1 x h
    · exact bn_mem hx.1 x h
  cases A2 with
  | none =>
    have h0 : bs.length = 0 := by
      rcases Nat.eq_zero_or_pos bs.length with h0 | h0
      · exact h0
      · obtain ⟨b, off, e, _⟩ := hx.2 h0; cases e
    obtain rfl : bs = [] := List.eq_nil_of_length_eq_zero h0
    obtain rfl := hA rfl
    refine wpList_append_own_none hgd s x 25 ho 0 5 i0 1 Try.underlying25 hi0 _ l.length (yvals l) hs hown.1 hxx ?_
    exact h A c l w (by show l = l ++ []; simp) hown ⟨rfl, rfl, rfl, Nat.le_refl _, fun _ _ _ => rfl⟩ (.inl rfl)
  | some ad =>
    refine wpList_append_own_at _ hgd s x 25 ho 0 5 i0 (.int .u8 0) 1 1 Try.underlying25 hi0 hz0 hz1 hz2 rfl (by omega) _ l.length (yvals l) hs hown.1 ad bs.length c2 (yvals bs) hxx (by simp [yvals]) (fun j u hj => bts_cells hx j u hj) (yvals_one bs) (by unfold maxLen; omega) (by omega) (Nat.zero_le _) ?_
    intro v' w' hown' hgrow _ hblk
    have hown2 : w'.ownsRow 0 5 1 v' (l ++ bs).length (yvals (l ++ bs)) := by
      rw [List.length_append]; unfold yvals at hown' ⊢; rw [List.map_append]; exact hown'
    obtain ⟨A', c', rfl, hn⟩ := own_form rfl hown2
    rw [ow_own, ow_own] at hblk
    refine h A' c' (l ++ bs) w' rfl ⟨hown2, hmem, hn⟩ (by rw [← ow_own A l.length c]; exact hgrow) ?_
    rcases hblk with e | e
    · exact .inl e
    · exact .inr ⟨_, e, Nat.le_refl _⟩

/-- a byte laid behind bytes that have no room: a new row -/
theorem app_full {ops : Array Oper} {rest : List Oper} {o : Oper} {a : Act} {Q : Exit → Act → World → Prop} {w : World} (hgd : o.guard = none) (s x : Operand)
    (ho : o.op = .call { callee := .builtin .append, args := #[s, x], argTypes := #[25, 25] })
    (ad : Addr) (l : List Nat) (hl : Bts w (some ad) l) (ad2 : Addr) (c2 : Nat) (bs : List Nat) (hx : Bts w (some ad2) bs) (h0 : 0 < bs.length) (lx : l.length + bs.length ≤ 65536)
    (hs : a.eval s = .slice (some ad) l.length l.length) (hxx : a.eval x = .slice (some ad2) bs.length c2)
    (h : ∀ A' c' l' w', Hid (l' = l ++ bs) → Own w' A' c' l' → Below w.heap.size w w' → (∀ k, ow A' = some k → w.heap.size ≤ k) → wpList Try.prog ops Q rest (a.put o.dst (.slice A' l'.length c')) w') :
    wpList Try.prog ops Q (o :: rest) a w := by
  obtain ⟨i0, hi0, hz0, hz1, hz2⟩ := info_parts Try.info5
  have hmem : ∀ x ∈ l ++ bs, x < 256 := fun x hm => by
    rcases List.mem_append.1 hm with h | h
    · exact bn_mem hl.1 x h
    · exact bn_mem hx.1 x h
  have hr := run_append_grow (P := Try.prog) w 25 o.type 5 i0 (.int .u8 0) Try.underlying25 hi0 hz0 ad l.length l.length (yvals l) (by rw [hz1]; simp [yvals]) (fun j u hj => bts_cells hl j u hj) ad2 bs.length c2 (yvals bs) (by rw [hz1]; simp [yvals]) (fun j u hj => bts_cells hx j u hj) (by omega) (by omega) (growslice_fits (by omega) (by rw [hz2]; omega))
  have hge := grownCap_ge w (l.length + bs.length) l.length 5
  have hcm : grownCap w (l.length + bs.length) l.length 5 ≤ maxLen := grownCap_le_maxLen w _ _ 5 (by unfold maxLen; omega)
  refine wpList_plain hgd fun K hK => ?_
  unfold Oper.wp
  simp only [execOp, ho, resolve, invoke, builtin, Sem.run_bind, Sem.run_pure, Result.andThen_ok, List.map_toArray, List.map_cons, List.map_nil, hs, hxx, hr]
  refine hK _ _ ?_
  generalize hcap : grownCap w (l.length + bs.length) l.length 5 = cap at *
  have key := h (some ⟨w.heap.size, 0, none⟩) cap (l ++ bs) (w.drew.alloc (.cells ((yvals l).toArray ++ (yvals bs).toArray ++ Builtin.zeroCells (Value.int .u8 0).cells (cap - (l.length + bs.length))) 5)) rfl
    ⟨⟨by simp [yvals], .inr ⟨w.heap.size, cap, _, rfl, Nat.zero_le _, heap_alloc_new w.drew _, by rw [List.length_append]; exact hge, hcm, ?_, ?_⟩⟩, hmem, fun h => by cases h⟩
    (((Below.refl _ _).drew).alloc (by simp) _) (fun k hk => by have : w.heap.size = k := (by simpa [ow] using hk); omega)
  · rw [List.length_append] at key; exact key
  · simp only [Array.size_append, List.size_toArray, size_zeroCells, len_yvals, Value.cells]
    simp
    omega
  · simp only [Array.toList_append, List.append_assoc]
    rw [← List.append_assoc, show yvals l ++ yvals bs = yvals (l ++ bs) by simp [yvals]]
    rw [show (l ++ bs).length * 1 = (yvals (l ++ bs)).length by simp [yvals]]
    exact List.take_left

/-- the append itself: bytes laid behind a row of the call's own -/
theorem run_appB (w : World) (ty : TypeId) (A : Option Addr) (c : Nat) (l : List Nat) (hown : Own w A c l) (A2 : Option Addr) (c2 : Nat) (bs : List Nat) (hx : Bts w A2 bs) (hA : A2 = none → c2 = 0) (lx : l.length + bs.length ≤ 140737488355328) :
    ∃ A' c' w', (Builtin.append_ #[25, 25] ty #[.slice A l.length c, .slice A2 bs.length c2]).run Try.prog w = .ok (.slice A' (l ++ bs).length c') w' ∧ Own w' A' c' (l ++ bs) ∧ w.grownBy w' (ow A) ∧ Nr w A A' := by
  obtain ⟨i0, hi0, hz0, hz1, hz2⟩ := info_parts Try.info5
  have hmem : ∀ x ∈ l ++ bs, x < 256 := fun x hm => by
    rcases List.mem_append.1 hm with h | h
    · exact hown.2.1 x h
    · exact bn_mem hx.1 x h
  cases A2 with
  | none =>
    have h0 : bs.length = 0 := by
      rcases Nat.eq_zero_or_pos bs.length with h0 | h0
      · exact h0
      · obtain ⟨b, off, e, _⟩ := hx.2 h0; cases e
    obtain rfl : bs = [] := List.eq_nil_of_length_eq_zero h0
    obtain rfl := hA rfl
    refine ⟨A, c, w, ?_, by rw [List.append_nil]; exact hown, ⟨rfl, rfl, rfl, Nat.le_refl _, fun _ _ _ => rfl⟩, .inl rfl⟩
    rw [List.append_nil]
    exact run_append_owned_none (P := Try.prog) (w := w) 0 25 ty 5 i0 1 Try.underlying25 hi0 _ l.length (yvals l) hown.1
  | some ad =>
    obtain ⟨v', w', hrun, hown', hgrow, _, hblk⟩ := run_append_own_at (P := Try.prog) w 0 25 ty 5 i0 (.int .u8 0) 1 1 Try.underlying25 hi0 hz0 hz1 hz2 rfl (by omega) _ l.length (yvals l) hown.1 ad bs.length c2 (yvals bs) (by simp [yvals]) (fun j u hj => bts_cells hx j u hj) (yvals_one bs) (by unfold maxLen; omega) (by omega) (Nat.zero_le _)
    have hown2 : w'.ownsRow 0 5 1 v' (l ++ bs).length (yvals (l ++ bs)) := by
      rw [List.length_append]; unfold yvals at hown' ⊢; rw [List.map_append]; exact hown'
    obtain ⟨A', c', rfl, hn⟩ := own_form rfl hown2
    rw [ow_own, ow_own] at hblk
    refine ⟨A', c', w', hrun, ⟨hown2, hmem, hn⟩, by rw [← ow_own A l.length c]; exact hgrow, ?_⟩
    rcases hblk with e | e
    · exact .inl e
    · exact .inr ⟨_, e, Nat.le_refl _⟩
/-- the same inside a region that draws its order -/
theorem step_appB {ops : Array Oper} {o : Oper} {a : Act} {K : Act → World → Prop} {Q : Exit → Act → World → Prop} {E : Prop} {w : World} (hgd : o.guard = none) (s x : Operand)
    (ho : o.op = .call { callee := .builtin .append, args := #[s, x], argTypes := #[25, 25] })
    (A : Option Addr) (c : Nat) (l : List Nat) (hown : Own w A c l) (A2 : Option Addr) (c2 : Nat) (bs : List Nat) (hx : Bts w A2 bs) (hA : A2 = none → c2 = 0) (lx : l.length + bs.length ≤ 140737488355328)
    (hs : a.eval s = .slice A l.length c) (hxx : a.eval x = .slice A2 bs.length c2)
    (h : ∀ A' c' l' w', Hid (l' = l ++ bs) → Own w' A' c' l' → w.grownBy w' (ow A) → Nr w A A' → K (a.put o.dst (.slice A' l'.length c')) w') :
    if Region.wanted o (yielded ops a.tmps) = true then Oper.wp Try.prog o a w K Q else E := by
  have hw : Region.wanted o (yielded ops a.tmps) = true := by simp [Region.wanted, hgd]
  rw [if_pos hw]
  obtain ⟨A', c', w', hrun, h1, h2, h3⟩ := run_appB w o.type A c l hown A2 c2 bs hx hA lx
  unfold Oper.wp
  simp only [execOp, ho, resolve, invoke, builtin, Sem.run_bind, Sem.run_pure, Result.andThen_ok, List.map_toArray, List.map_cons, List.map_nil, hs, hxx, hrun]
  exact h A' c' (l ++ bs) w' rfl h1 h2 h3
end Go.Proofs.Ytmjhmjbbfklbdaa
