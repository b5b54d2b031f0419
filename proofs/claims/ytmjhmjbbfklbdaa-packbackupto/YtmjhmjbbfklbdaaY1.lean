/- Rows of calls of a script; what a pen wrote an eye reads. -/
import Derived.Test.YtmjhmjbbfklbdaaX1
namespace Go.Proofs.Ytmjhmjbbfklbdaa
open Go.RowKit

/-- the cells of calls, one behind the other -/
def ov (os : List OpD) : List Value := os.flatMap fun o => [.int .i64 o.kd, .int .i64 o.sz, .int .u64 (o.n : Nat), .slice o.A o.bs.length o.c]
theorem len_ov (os : List OpD) : (ov os).length = os.length * 4 := by
  induction os with
  | nil => rfl
  | cons x r ih => unfold ov at ih ⊢; rw [List.flatMap_cons, List.length_append, ih]; simp; omega
theorem ov_app (a b : List OpD) : ov (a ++ b) = ov a ++ ov b := by unfold ov; rw [List.flatMap_append]
theorem ov_at (os : List OpD) (i : Nat) (o : OpD) (h : os[i]? = some o) : (ov os)[i * 4]? = some (.int .i64 o.kd) ∧ (ov os)[i * 4 + 1]? = some (.int .i64 o.sz) ∧ (ov os)[i * 4 + 2]? = some (.int .u64 (o.n : Nat)) ∧ (ov os)[i * 4 + 3]? = some (.slice o.A o.bs.length o.c) := by
  induction os generalizing i with
  | nil => simp at h
  | cons x r ih =>
    cases i with
    | zero => simp at h; subst h; exact ⟨rfl, rfl, rfl, rfl⟩
    | succ i =>
      have h' : r[i]? = some o := by simpa using h
      obtain ⟨a, b, c, d⟩ := ih i h'
      have e : ov (x :: r) = [.int .i64 x.kd, .int .i64 x.sz, .int .u64 (x.n : Nat), .slice x.A x.bs.length x.c] ++ ov r := rfl
      rw [e]
      refine ⟨?_, ?_, ?_, ?_⟩ <;> rw [List.getElem?_append_right (by simp; omega)]
      · rw [← a]; congr 1; simp; omega
      · rw [← b]; congr 1; simp; omega
      · rw [← c]; congr 1; simp; omega
      · rw [← d]; congr 1; simp; omega
/-- a row of calls of the call's own -/
def OwnO (w : World) (A : Option Addr) (c : Nat) (os : List OpD) : Prop := w.ownsRow 0 30 4 (.slice A os.length c) os.length (ov os)
section
variable {w w1 w' : World} {g : Nat} {r : Option Nat} {A A' A2 : Option Addr} {c c' : Nat} {os : List OpD}
theorem OwnO.lt (h : OwnO w A c os) {k : Nat} (e : ow A = some k) : k < w.heap.size := (World.ownsRow.lt h k (by rw [ow_own, e])).2
theorem OwnO.blocks (h : OwnO w A c os) (hb : ∀ k, ow A = some k → w'.heap[k]? = w.heap[k]?) : OwnO w' A c os := by
  refine ⟨h.1, ?_⟩
  rcases h.2 with ⟨e, h0⟩ | ⟨g, cap, cur, e, h1, h2, h3⟩
  · exact .inl ⟨e, h0⟩
  · refine .inr ⟨g, cap, cur, e, h1, ?_, h3⟩
    injection e with e1
    rw [hb g (by rw [e1]; rfl)]; exact h2
theorem OwnO.below (h : OwnO w A c os) (hb : Below w.heap.size w w') : OwnO w' A c os := h.blocks (fun k hk => hb.block k (h.lt hk))
theorem OwnO.ne (h : OwnO w A c os) {g : Nat} {t : TypeId} {cs : Array Value} {m : Nat × Nat} (hg : w.heap[g]? = some (.cells cs t m)) (ht : t ≠ 30) : ow A ≠ some g := by
  rcases h.2 with ⟨e, h0⟩ | ⟨g', cap, cur, e, h1, h2, h3⟩
  · injection e with e1; rw [e1]; intro h; cases h
  · injection e with e1
    rw [e1]
    intro e
    have : g' = g := by injection e
    subst this
    rw [h2] at hg
    injection hg with hg
    injection hg with _ hg
    exact ht hg.symm
theorem OwnO.own (h : OwnO w A c os) {B : Option Addr} {cb : Nat} {l : List Nat} (ho : Own w B cb l) : Ap A B := fun k hk e => by
  rcases ho.1.2 with ⟨e1, _⟩ | ⟨g', cap, cur, e1, _, h2, _⟩
  · injection e1 with e1; rw [e1] at e; cases e
  · injection e1 with e1
    rw [e1] at e
    have : g' = k := by injection e
    subst this
    exact h.ne h2 (by decide) hk
/-- the pen writes: the row of calls stays -/
theorem OwnO.fr (h : OwnO w A c os) (hf : Fr w w' g r) (h1 : ow A ≠ some g) (h2 : ow A = none ∨ ow A ≠ r) : OwnO w' A c os :=
  h.blocks (fun k hk => hf.block k (h.lt hk) (fun e => h1 (by rw [hk, e])) (fun e => by rcases h2 with h2 | h2; (rw [h2] at hk; cases hk); exact h2 (by rw [hk, e])))
theorem OwnO.grown (h : OwnO w A c os) (hf : w.grownBy w' (some g)) (h1 : ow A ≠ some g) : OwnO w' A c os :=
  h.blocks (fun k hk => hf.block k (h.lt hk) (fun e => h1 (by rw [hk, e])))
theorem Ap.or {A B : Option Addr} (h : Ap A B) : ow A = none ∨ ow A ≠ ow B := by
  cases e : ow A with
  | none => exact .inl rfl
  | some k => exact .inr fun e2 => h k e e2.symm
theorem OwnO.cells (h : OwnO w A c os) {i : Nat} {o : OpD} (ho : os[i]? = some o) : ∃ b, A = some ⟨b, 0, none⟩ ∧ b < w.heap.size ∧ w.cell? ⟨b, i * 4, none⟩ = some (.int .i64 o.kd) ∧ w.cell? ⟨b, i * 4 + 1, none⟩ = some (.int .i64 o.sz) ∧ w.cell? ⟨b, i * 4 + 2, none⟩ = some (.int .u64 (o.n : Nat)) ∧ w.cell? ⟨b, i * 4 + 3, none⟩ = some (.slice o.A o.bs.length o.c) := by
  have hi : i < os.length := by
    rcases Nat.lt_or_ge i os.length with h | h
    · exact h
    · rw [List.getElem?_eq_none h] at ho; cases ho
  obtain ⟨a0, a1, a2, a3⟩ := ov_at os i o ho
  have h' := h
  rcases h.2 with ⟨e, h0⟩ | ⟨b, cap, cur, e, _⟩
  · omega
  · injection e with e1 e2 e3
    subst e1
    have hc := World.ownsRow.cellAt h'
    refine ⟨b, rfl, h'.lt rfl, ?_, ?_, ?_, ?_⟩
    · rw [hc _ (by omega), a0]
    · rw [hc _ (by omega), a1]
    · rw [hc _ (by omega), a2]
    · rw [hc _ (by omega), a3]
end
theorem owno_new (w : World) : OwnO (w.alloc (.cells #[] 30)) (some ⟨w.heap.size, 0, none⟩) 0 [] :=
  World.ownsRow_lit (base := 0) (e := 30) (size := 4) w #[] 0 (Nat.zero_le _) (Nat.zero_le _) (by simp)
theorem info30_parts : ∃ i z, Try.prog.info? 30 = some i ∧ i.zero = some z ∧ i.size = 4 ∧ i.bytes = 48 ∧ z.cells.size = 4 := by
  have h : (Try.prog.info? 30).map (fun i => (i.zero.map (fun z => z.cells.size), i.size, i.bytes)) = some (some 4, 4, 48) := by kernel_rfl
  cases hi : Try.prog.info? 30 with
  | none => rw [hi] at h; cases h
  | some i =>
    rw [hi] at h
    simp only [Option.map_some, Option.some.injEq, Prod.mk.injEq] at h
    obtain ⟨h1, h2, h3⟩ := h
    cases hz : i.zero with
    | none => rw [hz] at h1; cases h1
    | some z => rw [hz] at h1; exact ⟨i, z, rfl, hz, h2, h3, by simpa using h1⟩

/-- a call laid behind a row of calls -/
theorem appO {ops : Array Oper} {rest : List Oper} {o : Oper} {a : Act} {Q : Exit → Act → World → Prop} {w : World} (hgd : o.guard = none) (s x : Operand)
    (ho : o.op = .call { callee := .builtin .append, args := #[s, x], argTypes := #[22, 22] })
    (A : Option Addr) (c : Nat) (ds : List OpD) (hown : OwnO w A c ds) (z c2 : Nat) (d : OpD) (hz : Zb w z d) (lx : ds.length ≤ 1048576)
    (hs : a.eval s = .slice A ds.length c) (hxx : a.eval x = .slice (some ⟨z, 0, none⟩) 1 c2)
    (h : ∀ A' c' ds' w', Hid (ds' = ds ++ [d]) → OwnO w' A' c' ds' → w.grownBy w' (ow A) → Nr w A A' → wpList Try.prog ops Q rest (a.put o.dst (.slice A' ds'.length c')) w') :
    wpList Try.prog ops Q (o :: rest) a w := by
  obtain ⟨i0, z0, hi0, hz0, hz1, hz2, hz3⟩ := info30_parts
  obtain ⟨q0, q1, q2, q3⟩ := hz.cells
  refine wpList_append_own_at _ hgd s x 22 ho 0 30 i0 z0 4 48 Try.underlying22 hi0 hz0 hz1 hz2 hz3 (by omega) _ ds.length (ov ds) hs hown ⟨z, 0, none⟩ 1 c2 (ov [d]) hxx rfl ?_ ?_ (by unfold maxLen; omega) (by omega) (Nat.zero_le _) ?_
  · intro j u hj
    match j, hj with
    | 0, hj => obtain rfl : Value.int .i64 d.kd = u := by simpa [ov] using hj
               exact q0
    | 1, hj => obtain rfl : Value.int .i64 d.sz = u := by simpa [ov] using hj
               exact q1
    | 2, hj => obtain rfl : Value.int .u64 (d.n : Nat) = u := by simpa [ov] using hj
               exact q2
    | 3, hj => obtain rfl : Value.slice d.A d.bs.length d.c = u := by simpa [ov] using hj
               exact q3
    | j + 4, hj => simp [ov] at hj
  · intro u hu
    simp [ov] at hu
    rcases hu with rfl | rfl | rfl | rfl <;> rfl
  · intro v' w' hown' hgrow _ hblk
    have hown2 : w'.ownsRow 0 30 4 v' (ds ++ [d]).length (ov (ds ++ [d])) := by
      rw [List.length_append, ov_app]; exact hown'
    obtain ⟨A', c', rfl⟩ : ∃ A' c', v' = .slice A' (ds ++ [d]).length c' := by
      rcases hown2.2 with ⟨e, h0⟩ | ⟨g, cap, cur, e, _⟩
      · simp at h0
      · exact ⟨_, cap, e⟩
    rw [ow_own, ow_own] at hblk
    refine h A' c' (ds ++ [d]) w' rfl hown2 (by rw [← ow_own A ds.length c]; exact hgrow) ?_
    rcases hblk with e | e
    · exact .inl e
    · exact .inr ⟨_, e, Nat.le_refl _⟩

/-- a call that is taken -/
def tk (o : OpD) : Prop := o.kd % 2 = 0 → uok o.n o.sz
instance (o : OpD) : Decidable (tk o) := inferInstanceAs (Decidable (_ → _))
def dn (os : List OpD) : Nat → List OpD
  | 0 => []
  | k + 1 => dn os k ++ (match os[k]? with | some o => if tk o then [o] else [] | none => [])
def wl (ds : List OpD) : List Nat := ds.flatMap wr1
theorem wl_app (a b : List OpD) : wl (a ++ b) = wl a ++ wl b := by unfold wl; rw [List.flatMap_append]
theorem wl_one (o : OpD) : wl [o] = wr1 o := by unfold wl; simp
theorem dn_yes {os : List OpD} {k : Nat} {o : OpD} (h : os[k]? = some o) (ht : tk o) : dn os (k + 1) = dn os k ++ [o] := by rw [dn, h]; simp [ht]
theorem dn_no {os : List OpD} {k : Nat} {o : OpD} (h : os[k]? = some o) (ht : ¬ tk o) : dn os (k + 1) = dn os k := by rw [dn, h]; simp [ht]
theorem tk_not {o : OpD} (ht : ¬ tk o) : wr1 o = [] := by
  unfold tk at ht
  have h1 : o.kd % 2 = 0 := by
    by_cases h : o.kd % 2 = 0
    · exact h
    · exact absurd (fun k => absurd k h) ht
  have h2 : ¬ uok o.n o.sz := fun k => ht fun _ => k
  unfold wr1 ub
  rw [if_pos h1, if_neg h2]
theorem dn_wrs (os : List OpD) (k : Nat) : wl (dn os k) = wrs os k := by
  induction k with
  | zero => rfl
  | succ k ih =>
    rw [dn, wrs, wl_app, ih]
    congr 1
    cases h : os[k]? with
    | none => rfl
    | some o =>
      by_cases ht : tk o
      · simp only [ht, if_true]; exact wl_one o
      · simp only [ht, if_false]; rw [tk_not ht]; rfl
theorem dn_mem {os : List OpD} {k : Nat} {o : OpD} (h : o ∈ dn os k) : o ∈ os ∧ tk o := by
  induction k with
  | zero => cases h
  | succ k ih =>
    rw [dn] at h
    rcases List.mem_append.1 h with h | h
    · exact ih h
    · cases e : os[k]? with
      | none => rw [e] at h; cases h
      | some x =>
        rw [e] at h
        by_cases ht : tk x
        · simp [ht] at h; subst h; exact ⟨List.mem_of_getElem? e, ht⟩
        · simp [ht] at h
theorem len_dn (os : List OpD) (k : Nat) : (dn os k).length ≤ k := by
  induction k with
  | zero => simp [dn]
  | succ k ih =>
    rw [dn, List.length_append]
    have : (match os[k]? with | some o => if tk o then [o] else [] | none => []).length ≤ 1 := by
      cases os[k]? with
      | none => simp
      | some x => dsimp only; split <;> simp
    omega
theorem wl_drop {ds : List OpD} {k : Nat} {o : OpD} (h : ds[k]? = some o) : wl (ds.drop k) = wr1 o ++ wl (ds.drop (k + 1)) := by
  have hk : k < ds.length := by
    rcases Nat.lt_or_ge k ds.length with h' | h'
    · exact h'
    · rw [List.getElem?_eq_none h'] at h; cases h
  rw [List.drop_eq_getElem_cons hk]
  rw [List.getElem?_eq_getElem hk] at h
  injection h with h
  rw [h]
  rfl
theorem sub_left (a b : List Nat) (n : Nat) (h : a.length = n) : sub (a ++ b) 0 n = a := by subst h; exact sub_append_left a b
theorem sub_right (a b : List Nat) (n : Nat) (h : a.length = n) : sub (a ++ b) n (a ++ b).length = b := by subst h; exact sub_append_right a b
theorem read_u (o : OpD) (l rest : List Nat) (hl : l = wr1 o ++ rest) (he : o.kd % 2 = 0) (ht : tk o) : ruc l o.sz = 0 ∧ ruv l o.sz = o.n ∧ rul l o.sz = rest := by
  have hu := ht he
  have hw : wr1 o = le o.sz.toNat o.n := by unfold wr1 ub; rw [if_pos he, if_pos hu]
  subst hl
  have hs := hu.1
  have h0 : ruc (wr1 o ++ rest) o.sz = 0 := by
    unfold ruc
    rw [if_pos hs, if_neg]
    rw [List.length_append, hw, len_le]; omega
  refine ⟨h0, ?_, ?_⟩
  · unfold ruv
    rw [if_pos h0, hw, sub_left _ _ _ (len_le _ _), num_le]
    exact Nat.mod_eq_of_lt hu.2
  · unfold rul
    rw [if_pos h0, hw, sub_right _ _ _ (len_le _ _)]
theorem read_b (o : OpD) (l rest : List Nat) (hl : l = wr1 o ++ rest) (he : ¬ o.kd % 2 = 0) (hb : o.bs.length < 4294967296) : rbc l = 0 ∧ rbb l = o.bs ∧ rbl l = rest := by
  have hw : wr1 o = le 4 o.bs.length ++ o.bs := by unfold wr1; rw [if_neg he]
  subst hl
  rw [hw, List.append_assoc]
  have h4 : sub (le 4 o.bs.length ++ (o.bs ++ rest)) 0 4 = le 4 o.bs.length := sub_left _ _ _ (len_le _ _)
  have hn : num (sub (le 4 o.bs.length ++ (o.bs ++ rest)) 0 4) = o.bs.length := by rw [h4, num_le4 _ hb]
  have hlen : (le 4 o.bs.length ++ (o.bs ++ rest)).length = 4 + (o.bs.length + rest.length) := by simp [len_le]
  have h0 : rbc (le 4 o.bs.length ++ (o.bs ++ rest)) = 0 := by
    unfold rbc
    rw [if_neg (by omega), if_neg (by rw [hn]; omega)]
  refine ⟨h0, ?_, ?_⟩
  · unfold rbb
    rw [if_pos h0, hn]
    have := sub_mid (le 4 o.bs.length) o.bs rest
    rw [len_le] at this; exact this
  · unfold rbl
    rw [if_pos h0, hn]
    have := sub_right (le 4 o.bs.length ++ o.bs) rest (4 + o.bs.length) (by simp [len_le])
    rw [List.append_assoc] at this; exact this
theorem tk_u {o : OpD} (he : o.kd % 2 = 0) : (uc o.n o.sz = 0 ↔ tk o) := by
  unfold uc tk
  constructor
  · intro h _
    by_cases hu : uok o.n o.sz
    · exact hu
    · rw [if_neg hu] at h; cases h
  · intro h; rw [if_pos (h he)]
end Go.Proofs.Ytmjhmjbbfklbdaa
