/- Sorted stably, a term that is the same as one ahead of it in the list stands right behind such a one: pure. A term that isn't great has few nodes. Spoil: all of a term is written over, and nothing else. -/
import Derived.Test.YtkljagffccommaaG29
import Derived.Test.YtkljagffccommaaU1
namespace Go.Proofs.Ytkljagffccommaa
open Go.RowKit
/-- in order: by the comparison, equal ones by their places -/
def inOrd (c : Nat → Nat → Int) (ord : List Nat) : Prop := ord.Pairwise fun i j => c i j < 0 ∨ (c i j = 0 ∧ i < j)
theorem ord_at {c : Nat → Nat → Int} {ord : List Nat} (h : inOrd c ord) {k k' i j : Nat} (hk : ord[k]? = some i) (hk' : ord[k']? = some j) (hlt : k < k') : c i j < 0 ∨ (c i j = 0 ∧ i < j) := by
  obtain ⟨a, rfl⟩ := List.getElem?_eq_some_iff.1 hk
  obtain ⟨b, rfl⟩ := List.getElem?_eq_some_iff.1 hk'
  exact List.pairwise_iff_getElem.1 h k k' a b hlt
theorem again_iff {c : Nat → Nat → Int} (hs : ∀ i j, c j i = - c i j) (ht : ∀ i j k, c i j ≤ 0 → c j k ≤ 0 → c i k ≤ 0) {ord : List Nat} (h : inOrd c ord) {j k : Nat} (hk : ord[k]? = some j) :
    (0 < k ∧ ∃ i, ord[k - 1]? = some i ∧ c i j = 0) ↔ ∃ i, i ∈ ord ∧ i < j ∧ c i j = 0 := by
  constructor
  · rintro ⟨h0, i, hi, e⟩
    refine ⟨i, List.mem_of_getElem? hi, ?_, e⟩
    rcases ord_at h hi hk (by omega) with h1 | h1
    · omega
    · exact h1.2
  · rintro ⟨i, hi, hij, e⟩
    obtain ⟨k', hk'⟩ := List.getElem?_of_mem hi
    have hne : k' ≠ k := by rintro rfl; rw [hk] at hk'; cases hk'; omega
    have hlt : k' < k := by
      rcases Nat.lt_or_ge k' k with h1 | h1
      · exact h1
      · have := ord_at h hk hk' (by omega)
        rw [hs i j, e] at this
        omega
    refine ⟨by omega, ?_⟩
    obtain ⟨hkl, _⟩ := List.getElem?_eq_some_iff.1 hk
    refine ⟨ord[k - 1], List.getElem?_eq_getElem (by omega), ?_⟩
    have hp : ord[k - 1]? = some ord[k - 1] := List.getElem?_eq_getElem (by omega)
    generalize ord[k - 1] = p at hp
    have h1 : c p j ≤ 0 := by
      rcases ord_at h hp hk (by omega) with h1 | h1 <;> omega
    have h2 : c i p ≤ 0 := by
      by_cases e2 : k' = k - 1
      · rw [e2, hp] at hk'
        obtain rfl : p = i := Option.some.inj hk'
        have := hs p p
        omega
      · rcases ord_at h hk' hp (by omega) with h1 | h1 <;> omega
    have h3 : c j p ≤ 0 := ht j i p (by rw [hs i j, e]; omega) h2
    have := hs p j
    omega
/-- the terms that the marks leave -/
def keepP (B : Nat → Bool) : List Tm → Nat → List Tm
  | [], _ => []
  | k :: r, i => if B i = true then keepP B r (i + 1) else k :: keepP B r (i + 1)
theorem once_snoc (o p : List Tm) (a : Tm) : once o (p ++ [a]) = push1 (once o p) a := once_app o p [a]
theorem any_once (k : Tm) (p : List Tm) : (once [] p).any (fun x => sameT x k) = p.any (fun x => sameT x k) := by
  induction p using snoc_ind with
  | h0 => rfl
  | h1 p a ih =>
    rw [once_snoc, List.any_append]
    unfold push1
    split
    · rename_i h
      rw [ih]
      cases e : sameT a k with
      | false => simp [e]
      | true =>
        have : (once [] p).any (fun x => sameT x k) = true := by
          obtain ⟨x, hx, hs⟩ := List.any_eq_true.1 h
          exact List.any_eq_true.2 ⟨x, hx, sameT_tr x a k hs e⟩
        rw [ih] at this
        rw [this]; rfl
    · rw [List.any_append, ih]
theorem keep_once (B : Nat → Bool) : ∀ (r p : List Tm), (∀ (j : Nat) (k : Tm), r[j]? = some k → B (p.length + j) = (p ++ r.take j).any (fun x => sameT x k)) → once [] (p ++ r) = once [] p ++ keepP B r p.length := by
  intro r
  induction r with
  | nil => intro p _; rw [List.append_nil, keepP, List.append_nil]
  | cons a r ih =>
    intro p h
    have h0 := h 0 a rfl
    rw [List.take_zero, List.append_nil, Nat.add_zero] at h0
    have e : p ++ a :: r = (p ++ [a]) ++ r := by simp
    rw [e, ih (p ++ [a]) ?_, once_snoc, keepP, h0, List.length_append]
    · unfold push1
      rw [any_once]
      split
      · rfl
      · rw [List.append_assoc]; rfl
    · intro j k hj
      have := h (j + 1) k hj
      rw [List.length_append, List.take_succ_cons] at *
      rw [show p.length + [a].length + j = p.length + (j + 1) by simp; omega, this]
      simp
theorem keep_all (B : Nat → Bool) (l : List Tm) (h : ∀ (j : Nat) (k : Tm), l[j]? = some k → B j = (l.take j).any (fun x => sameT x k)) : keepP B l 0 = once [] l := by
  have := keep_once B l [] (fun j k hj => by rw [List.length_nil, Nat.zero_add, List.nil_append]; exact h j k hj)
  rw [List.nil_append] at this
  rw [this]; rfl
theorem cmpT_swap (a b : Tm) : cmpT b a = - cmpT a b := by rw [cmpT_lex, cmpT_lex, lexC_swap]
theorem cmpT_trans (a b c : Tm) (h : cmpT a b ≤ 0) (g : cmpT b c ≤ 0) : cmpT a c ≤ 0 := by
  rw [cmpT_lex] at *
  exact lexC_trans _ _ _ h g
/-- the marks that the sorted places give are those of the terms that are there already -/
theorem marks_are (l : List Tm) (ord : List Nat) (hm : ∀ i, i < l.length → i ∈ ord) (hlt : ∀ i ∈ ord, i < l.length) (h : inOrd (fun i j => cmpT (l.getD i (lfT 1)) (l.getD j (lfT 1))) ord)
    (B : Nat → Bool) (hB : ∀ (k j : Nat), ord[k]? = some j → B j = decide (0 < k ∧ ∃ i, ord[k - 1]? = some i ∧ cmpT (l.getD i (lfT 1)) (l.getD j (lfT 1)) = 0)) : keepP B l 0 = once [] l := by
  apply keep_all
  intro j t hj
  obtain ⟨hjl, ej⟩ := List.getElem?_eq_some_iff.1 hj
  have dj : l.getD j (lfT 1) = t := by rw [List.getD_eq_getElem?_getD, hj]; rfl
  obtain ⟨k, hk⟩ := List.getElem?_of_mem (hm j hjl)
  rw [hB k j hk, Bool.eq_iff_iff, decide_eq_true_iff, List.any_eq_true]
  rw [again_iff (c := fun i j => cmpT (l.getD i (lfT 1)) (l.getD j (lfT 1))) (fun i j => cmpT_swap _ _) (fun i j k => cmpT_trans _ _ _) h hk]
  constructor
  · rintro ⟨i, hi, hij, e⟩
    have hil := hlt i hi
    have di : l.getD i (lfT 1) = l[i] := by rw [List.getD_eq_getElem?_getD, List.getElem?_eq_getElem hil]; rfl
    refine ⟨l[i], ?_, ?_⟩
    · exact List.mem_of_getElem? (i := i) (by rw [List.getElem?_take, if_pos hij, List.getElem?_eq_getElem hil])
    · have e' : cmpT (l.getD i (lfT 1)) (l.getD j (lfT 1)) = 0 := e
      rw [di, dj] at e'
      exact (cmpT_same _ _).1 e'
  · rintro ⟨x, hx, e⟩
    obtain ⟨i, hi⟩ := List.getElem?_of_mem hx
    rw [List.getElem?_take] at hi
    split at hi
    · rename_i hij
      obtain ⟨hil, _⟩ := List.getElem?_eq_some_iff.1 hi
      refine ⟨i, hm i hil, hij, ?_⟩
      show cmpT (l.getD i (lfT 1)) (l.getD j (lfT 1)) = 0
      rw [dj, List.getD_eq_getElem?_getD, hi]
      exact (cmpT_same _ _).2 e
    · cases hi
end Go.Proofs.Ytkljagffccommaa
namespace Go.Proofs.Ytkljagffccommaa
open Go.RowKit
mutual
def szT : Tm → Nat
  | .mk _ _ _ _ ks => 1 + szL ks
def szL : List Tm → Nat
  | [] => 0
  | k :: r => szT k + szL r
end
theorem szL_snoc (k : Tm) : ∀ ks : List Tm, szL (ks ++ [k]) = szL ks + szT k
  | [] => by simp [szL]
  | x :: r => by rw [List.cons_append, szL, szL, szL_snoc k r]; omega
theorem szL_mem : ∀ (ks : List Tm) (k : Tm), k ∈ ks → szT k ≤ szL ks
  | x :: r, k, h => by
    rw [szL]
    rcases List.mem_cons.1 h with e | e
    · subst e; omega
    · have := szL_mem r k e; omega
set_option maxRecDepth 100000 in
set_option maxHeartbeats 2000000 in
theorem size_sz : ∀ (t : Tm) (d : TD) (dp : Nat) (w : World), TR w t d → dp ≤ 61 → Calls Try.prog 31 #[d.val, .int .i64 (dp : Nat)] w (fun e w' => ∃ n : Nat, e = .returned (.int .i64 (n : Nat)) ∧ n ≤ 1000000 + 500 * (61 - dp) ∧ 1 ≤ n ∧ (n ≤ 500 → szT t ≤ n) ∧ Below w.heap.size w w') := by
  intro t
  induction t using Tm.ind with
  | h op f lo hi ks ih =>
  intro d dp w ht hdp
  cases ht with
  | mk _ _ _ _ _ q A c ds hq hl hn hk hr =>
  have T1 : Hid (TB (w.alloc (.cells #[.int .i64 op, .int .u64 (uv (q 0)), .int .u64 (uv (q 1)), .int .u64 (uv (q 2)), .int .u64 (uv (q 3)), .int .i64 lo, .int .i64 hi, .slice A ks.length c] 29)) w.heap.size ⟨op, q, lo, hi, A, ks.length, c⟩) := TB.new w ⟨op, q, lo, hi, A, ks.length, c⟩
  have B1 : Hid (Below w.heap.size w (w.alloc (.cells #[.int .i64 op, .int .u64 (uv (q 0)), .int .u64 (uv (q 1)), .int .u64 (uv (q 2)), .int .u64 (uv (q 3)), .int .i64 lo, .int .i64 hi, .slice A ks.length c] 29))) := below_new w _
  obtain ⟨⟨x0, x1, x2, x3, x4, x5, x6, x7⟩, _⟩ := T1.out.all
  unfold TD.val
  by_cases h60 : 60 < dp
  · have q1 : (60 : Int) < (dp : Int) := by omega
    clear ih hk hr
    go_enter Try.func31, Try.ntmps31
    go_wp2
    go_ret
    exact ⟨1000000, rfl, by omega, by omega, fun h => by omega, B1.out⟩
  have q1 : ¬ (60 : Int) < (dp : Int) := by omega
  have IH := Lib.hid ih; have HK := Lib.hid hk; have HR := Lib.hid hr; have HL := Lib.hid hl
  obtain ⟨n, hnn⟩ : ∃ n, ks.length = n := ⟨_, rfl⟩
  rw [hnn] at T1 B1 x0 x1 x2 x3 x4 x5 x6 x7 hn
  have HN := Lib.hid hnn
  simp only [hnn]
  clear ih hk hr hl hnn
  go_enter Try.func31, Try.ntmps31
  go_wp2_with fail
  go_loopw [5, 6] (fun u v wr => ∃ m i : Nat, i ≤ n ∧ m ≤ 1000000 + 500 * (61 - dp) ∧ u = .int .i64 (m : Nat) ∧ v = .int .i64 (i : Nat) ∧ Hid (i + 1 ≤ m ∧ (m ≤ 500 → 1 + szL (ks.take i) ≤ m)) ∧ Hid (TB wr w.heap.size ⟨op, q, lo, hi, A, n, c⟩ ∧ Below w.heap.size w wr)) (fun _ v _ => n - (intOf v).toNat)
  case atStart => exact ⟨1, 0, Nat.zero_le _, by omega, rfl, rfl, Lib.hid ⟨by omega, fun _ => by rw [List.take_zero, szL]; omega⟩, ⟨T1.out, B1.out⟩⟩
  case round =>
    obtain ⟨m, i, hi1, hm, rfl, rfl, hF, hW⟩ := hrel
    obtain ⟨⟨x0, x1, x2, x3, x4, x5, x6, x7⟩, _⟩ := hW.out.1.all
    clear T1 B1
    by_cases hlt : i < n
    · have qi : (i : Int) < (n : Int) := by omega
      by_cases hm5 : m ≤ 500
      · have qm : (m : Int) ≤ 500 := by omega
        have hi2 : i < ks.length := by have := HN.out; omega
        have hi4 : i < ds.length := by have h1 := HL.out; omega
        obtain ⟨kb1, off1, rfl, hb1, hc1⟩ := HR.out (by omega)
        obtain ⟨a0, a1, a2, a3, a4, a5, a6, a7⟩ := kid_cells hW.out.2 hb1 hc1 (List.getElem?_eq_getElem hi4)
        have k1 := (HK.out i _ _ (List.getElem?_eq_getElem hi2) (List.getElem?_eq_getElem hi4)).keeps hW.out.2
        have D1 := Lib.hid (IH.out _ (List.getElem_mem hi2) _ (dp + 1) wr k1 (by omega))
        have q7 : ((dp + 1 : Nat) : Int) = (dp : Int) + 1 := by omega
        rw [q7] at D1
        have tk : Hid (szL (ks.take (i + 1)) = szL (ks.take i) + szT ks[i]) := Lib.hid (by rw [List.take_succ_eq_append_getElem hi2, szL_snoc])
        generalize ds[i] = dt at *
        generalize ks[i] = kt at *
        have q5 : IntKind.i64.wrap ((dp : Int) + 1) = (dp : Int) + 1 := by rw [IntWalk.i64_in _ (by omega)]
        have HM : Hid (m ≤ 500) := hm5
        clear hc1 k1 hi2 hi4 hb1 q7 hm hm5
        unfold TD.val at D1
        go_wp2_with fail
        refine D1.out.mono ?_
        rintro e w5 ⟨n5, rfl, hn5, hn6, hf5, hb5⟩
        have W5 : Hid (TB w5 w.heap.size ⟨op, q, lo, hi, some ⟨kb1, off1, none⟩, n, c⟩ ∧ Below w.heap.size w w5) := ⟨hW.out.1.below hb5, hW.out.2.trans (hb5.mono hW.out.2.size)⟩
        have hsum : m + n5 ≤ 1000000 + 500 * (61 - dp) := by have := HM.out; omega
        have F5 : Hid (i + 1 + 1 ≤ m + n5 ∧ (m + n5 ≤ 500 → 1 + szL (ks.take (i + 1)) ≤ m + n5)) := Lib.hid ⟨by have := hF.out.1; omega, fun hle => by
          rw [tk.out]
          have := hF.out.2 (by omega)
          have := hf5 (by omega)
          omega⟩
        clear hf5 hF tk
        have q6 : IntKind.i64.wrap ((i : Int) + 1) = ((i + 1 : Nat) : Int) := by rw [IntWalk.i64_in _ (by omega)]; omega
        have q8 : IntKind.i64.wrap ((m : Int) + (n5 : Int)) = ((m + n5 : Nat) : Int) := by rw [IntWalk.i64_in _ (by omega)]; omega
        clear D1 hW hb5 a0 a1 a2 a3 a4 a5 a6 a7 x0 x1 x2 x3 x4 x5 x6 x7
        go_wp2_with fail
        go_roundw
        case rel => exact ⟨m + n5, i + 1, by omega, hsum, by simp, by simp, F5, W5⟩
        case measure => simp [intOf]; omega
      · have qm : ¬ (m : Int) ≤ 500 := by omega
        go_wp2
        go_ret
        exact ⟨m, rfl, hm, by have := hF.out.1; omega, fun h => by omega, hW.out.2⟩
    · have qi : ¬ (i : Int) < (n : Int) := by omega
      go_wp2
      go_ret
      exact ⟨m, rfl, hm, by have := hF.out.1; omega, fun h => by
        have h1 := hF.out.2 h
        have h2 : ks.take i = ks := List.take_of_length_le (by have := HN.out; omega)
        rw [h2] at h1
        rw [szT]; omega, hW.out.2⟩
/-- whether a term is great is told -/
theorem great_sz (t : Tm) (d : TD) (w : World) (ht : TR w t d) : Calls Try.prog 16 #[d.val] w (fun e w' => ∃ b : Bool, e = .returned (.bool b) ∧ (b = false → szT t ≤ 500) ∧ Below w.heap.size w w') := by
  have nb := below_new w (.cells d.cells 29)
  have D1 := Lib.hid (size_sz t d 0 _ (ht.keeps nb) (by omega))
  have B1 := Lib.hid nb
  obtain ⟨⟨x0, x1, x2, x3, x4, x5, x6, x7⟩, _⟩ := (TB.new w d).all
  clear nb
  unfold TD.val TD.cells at *
  go_enter Try.func16, Try.ntmps16
  go_wp2_with fail
  refine D1.out.mono ?_
  rintro e w2 ⟨n, rfl, _, _, hf2, hb2⟩
  have F2 := Lib.hid hf2
  have B2 := Lib.hid (B1.out.trans (hb2.mono B1.out.size))
  clear D1 B1 hb2 hf2 x0 x1 x2 x3 x4 x5 x6 x7
  go_wp2
  go_ret
  exact ⟨_, rfl, fun h => Nat.le_trans (F2.out (by simp at h; omega)) (by simp at h; omega), B2.out⟩
end Go.Proofs.Ytkljagffccommaa
namespace Go.Proofs.Ytkljagffccommaa
open Go.RowKit
def d99 : TD := ⟨99, fun _ => 0#64, 0, 0, none, 0, 0⟩
/-- blocks outside S are as they were -/
structure Fs (w w' : World) (S : Nat → Prop) : Prop where
  os : w'.os = w.os
  tape : w'.tape = w.tape
  output : w'.output = w.output
  size : w.heap.size ≤ w'.heap.size
  block : ∀ k, k < w.heap.size → ¬ S k → w'.heap[k]? = w.heap[k]?
/-- each eight cells of a block of S are as they were in w0, or written over -/
def Ins (w0 w : World) (S : Nat → Prop) : Prop := ∀ k, S k → ∀ cur0, w0.heap[k]? = some (.cells cur0 29 (0, 0)) →
  ∃ cur, w.heap[k]? = some (.cells cur 29 (0, 0)) ∧ cur.size = cur0.size ∧ ∀ j, (∀ o, o < 8 → cur[j * 8 + o]? = cur0[j * 8 + o]?) ∨ (∀ o, o < 8 → cur[j * 8 + o]? = d99.cells[o]?)
section
variable {w w1 w' w0 : World} {S : Nat → Prop}
theorem Fs.refl (w : World) (S : Nat → Prop) : Fs w w S := ⟨rfl, rfl, rfl, Nat.le_refl _, fun _ _ _ => rfl⟩
theorem Fs.trans (h : Fs w w1 S) (h2 : Fs w1 w' S) : Fs w w' S := ⟨h2.os.trans h.os, h2.tape.trans h.tape, h2.output.trans h.output, Nat.le_trans h.size h2.size, fun k hk hs => (h2.block k (Nat.lt_of_lt_of_le hk h.size) hs).trans (h.block k hk hs)⟩
theorem Fs.below (h : Below w.heap.size w w') (S : Nat → Prop) : Fs w w' S := ⟨h.os, h.tape, h.output, h.size, fun k hk _ => h.block k hk⟩
theorem Ins.keep (h : Ins w0 w S) (hb : ∀ k, S k → w'.heap[k]? = w.heap[k]?) : Ins w0 w' S := fun k hk cur0 h0 => by
  obtain ⟨cur, h1, h2, h3⟩ := h k hk cur0 h0
  exact ⟨cur, (hb k hk).trans h1, h2, h3⟩
end
theorem setc_cur (w : World) (b o : Nat) (cur : Array Value) (u : Value) (h : w.heap[b]? = some (.cells cur 29 (0, 0))) : (w.setCell ⟨b, o, none⟩ u).heap[b]? = some (.cells (cur.setIfInBounds o u) 29 (0, 0)) := heap_setCell_same w b o cur 29 u h
/-- eight cells of a row, written over -/
def put99 (w : World) (b e : Nat) : World := ((((((((w.setCell ⟨b, e, none⟩ (.int .i64 99)).setCell ⟨b, e + 1, none⟩ (.int .u64 0)).setCell ⟨b, e + 2, none⟩ (.int .u64 0)).setCell ⟨b, e + 3, none⟩ (.int .u64 0)).setCell ⟨b, e + 4, none⟩ (.int .u64 0)).setCell ⟨b, e + 5, none⟩ (.int .i64 0)).setCell ⟨b, e + 6, none⟩ (.int .i64 0)).setCell ⟨b, e + 7, none⟩ (.slice none 0 0))
theorem put99_size (w : World) (b e : Nat) : (put99 w b e).heap.size = w.heap.size := by simp [put99, World.setCell]
theorem put99_heap (w : World) (b e k : Nat) (h : k ≠ b) : (put99 w b e).heap[k]? = w.heap[k]? := by
  unfold put99
  rw [Below.heap_setCell _ ⟨b, e + 7, none⟩ _ k h, Below.heap_setCell _ ⟨b, e + 6, none⟩ _ k h, Below.heap_setCell _ ⟨b, e + 5, none⟩ _ k h, Below.heap_setCell _ ⟨b, e + 4, none⟩ _ k h, Below.heap_setCell _ ⟨b, e + 3, none⟩ _ k h, Below.heap_setCell _ ⟨b, e + 2, none⟩ _ k h, Below.heap_setCell _ ⟨b, e + 1, none⟩ _ k h, Below.heap_setCell _ ⟨b, e, none⟩ _ k h]
theorem sc_os (w : World) (p : Addr) (u : Value) : (w.setCell p u).os = w.os := rfl
theorem sc_tape (w : World) (p : Addr) (u : Value) : (w.setCell p u).tape = w.tape := rfl
theorem sc_output (w : World) (p : Addr) (u : Value) : (w.setCell p u).output = w.output := rfl
theorem put99_env (w : World) (b e : Nat) : (put99 w b e).os = w.os ∧ (put99 w b e).tape = w.tape ∧ (put99 w b e).output = w.output := by
  unfold put99
  simp only [sc_os, sc_tape, sc_output]
  exact ⟨trivial, trivial, trivial⟩
theorem put99_cur (w : World) (b e : Nat) (cur : Array Value) (h : w.heap[b]? = some (.cells cur 29 (0, 0))) : ∃ cur', (put99 w b e).heap[b]? = some (.cells cur' 29 (0, 0)) ∧ cur'.size = cur.size ∧ (∀ o, o < 8 → e + 8 ≤ cur.size → cur'[e + o]? = d99.cells[o]?) ∧ (∀ x, (x < e ∨ e + 8 ≤ x) → cur'[x]? = cur[x]?) := by
  have h0 := setc_cur w b e cur (.int .i64 99) h
  have h1 := setc_cur _ b (e + 1) _ (.int .u64 0) h0
  have h2 := setc_cur _ b (e + 2) _ (.int .u64 0) h1
  have h3 := setc_cur _ b (e + 3) _ (.int .u64 0) h2
  have h4 := setc_cur _ b (e + 4) _ (.int .u64 0) h3
  have h5 := setc_cur _ b (e + 5) _ (.int .i64 0) h4
  have h6 := setc_cur _ b (e + 6) _ (.int .i64 0) h5
  have h7 := setc_cur _ b (e + 7) _ (.slice none 0 0) h6
  refine ⟨_, h7, by simp, ?_, ?_⟩
  · intro o ho hs
    rcases (show o = 0 ∨ o = 1 ∨ o = 2 ∨ o = 3 ∨ o = 4 ∨ o = 5 ∨ o = 6 ∨ o = 7 by omega) with rfl | rfl | rfl | rfl | rfl | rfl | rfl | rfl
    all_goals
      simp [Array.getElem?_setIfInBounds, d99, TD.cells, uv]
      try omega
  · intro x hx
    simp only [Array.getElem?_setIfInBounds]
    repeat rw [if_neg (by omega)]
theorem Fs.put99 {w : World} {S : Nat → Prop} {b e : Nat} (hb : S b) : Fs w (Ytkljagffccommaa.put99 w b e) S := ⟨(put99_env w b e).1, (put99_env w b e).2.1, (put99_env w b e).2.2, by rw [put99_size]; exact Nat.le_refl _, fun k _ hs => put99_heap w b e k (fun e => hs (by rw [e]; exact hb))⟩
theorem Ins.put99 {w0 w : World} {S : Nat → Prop} {b i : Nat} (h : Ins w0 w S) {cur0 : Array Value} (h0 : w0.heap[b]? = some (.cells cur0 29 (0, 0))) (hi : i * 8 + 8 ≤ cur0.size) : Ins w0 (Ytkljagffccommaa.put99 w b (i * 8)) S := fun k hk c0 hc => by
  by_cases e : k = b
  · subst e
    rw [h0] at hc
    injection hc with hc
    injection hc with hc
    subst hc
    obtain ⟨cur, h1, h2, h3⟩ := h k hk cur0 h0
    obtain ⟨cur', g1, g2, g3, g4⟩ := put99_cur w k (i * 8) cur h1
    refine ⟨cur', g1, by rw [g2, h2], fun j => ?_⟩
    by_cases ej : j = i
    · subst ej
      exact .inr fun o ho => g3 o ho (by omega)
    · have hx : ∀ o, o < 8 → cur'[j * 8 + o]? = cur[j * 8 + o]? := fun o ho => g4 _ (by omega)
      rcases h3 j with h3 | h3
      · exact .inl fun o ho => (hx o ho).trans (h3 o ho)
      · exact .inr fun o ho => (hx o ho).trans (h3 o ho)
  · obtain ⟨cur, h1, h2, h3⟩ := h k hk c0 hc
    exact ⟨cur, (put99_heap w b _ k e).trans h1, h2, h3⟩
/-- a term without kids -/
theorem spoil_none (d : TD) (h : d.n = 0) (w : World) : Calls Try.prog 14 #[d.val] w (fun e w' => e = .returned (.tuple #[]) ∧ Below w.heap.size w w') := by
  have B1 := Lib.hid (below_new w (.cells d.cells 29))
  obtain ⟨⟨x0, x1, x2, x3, x4, x5, x6, x7⟩, -⟩ := (TB.new w d).all
  rw [h] at x7
  unfold TD.val TD.cells at *
  rw [h] at *
  go_enter Try.func14, Try.ntmps14
  go_wp2_with fail
  go_loopw [2] (fun v wr => v = .int .i64 0 ∧ wr = w.alloc (.cells #[.int .i64 d.op, .int .u64 (uv (d.q 0)), .int .u64 (uv (d.q 1)), .int .u64 (uv (d.q 2)), .int .u64 (uv (d.q 3)), .int .i64 d.lo, .int .i64 d.hi, .slice d.A 0 d.c] 29)) (fun _ _ => 0)
  case atStart => exact ⟨rfl, rfl⟩
  case round =>
    obtain ⟨rfl, rfl⟩ := hrel
    go_wp2
    refine bodyPost_end (results_none rfl _ _ _) rfl ?_
    exact ⟨rfl, B1.out⟩
/-- the row of a term, as far as it is written over -/
theorem Ins.kid {w0 w : World} {S : Nat → Prop} {b i : Nat} {ds : List TD} {d : TD} (h : Ins w0 w S) (hb : S b) (hr : Row w0 b ds) (hd : ds[i]? = some d) :
    ∃ d' : TD, (d' = d ∨ d' = d99) ∧ (w.cell? ⟨b, i * 8, none⟩ = some (.int .i64 d'.op) ∧ w.cell? ⟨b, i * 8 + 1, none⟩ = some (.int .u64 (uv (d'.q 0))) ∧ w.cell? ⟨b, i * 8 + 2, none⟩ = some (.int .u64 (uv (d'.q 1))) ∧ w.cell? ⟨b, i * 8 + 3, none⟩ = some (.int .u64 (uv (d'.q 2))) ∧ w.cell? ⟨b, i * 8 + 4, none⟩ = some (.int .u64 (uv (d'.q 3))) ∧ w.cell? ⟨b, i * 8 + 5, none⟩ = some (.int .i64 d'.lo) ∧ w.cell? ⟨b, i * 8 + 6, none⟩ = some (.int .i64 d'.hi) ∧ w.cell? ⟨b, i * 8 + 7, none⟩ = some (.slice d'.A d'.n d'.c)) ∧ (∀ j, w.frozen? ⟨b, j, none⟩ = false) ∧ ∃ cur0, w0.heap[b]? = some (.cells cur0 29 (0, 0)) ∧ i * 8 + 8 ≤ cur0.size := by
  obtain ⟨cur0, h0, ht⟩ := hr
  obtain ⟨cur, h1, h2, h3⟩ := h b hb cur0 h0
  have hi : i < ds.length := by
    rcases Nat.lt_or_ge i ds.length with h | h
    · exact h
    · rw [List.getElem?_eq_none h] at hd; cases hd
  have h0c : ∀ o, o < 8 → cur0[i * 8 + o]? = d.cells[o]? := fun o ho => by
    rw [← tcs_at ds i o d hd ho, ← ht, List.getElem?_take_of_lt (by omega)]
    simp
  have hsz : i * 8 + 8 ≤ cur0.size := by
    have := h0c 7 (by omega)
    rcases Nat.lt_or_ge (i * 8 + 7) cur0.size with h | h
    · omega
    · rw [Array.getElem?_eq_none h] at this; cases this
  have hc : ∀ o, w.cell? ⟨b, i * 8 + o, none⟩ = cur[i * 8 + o]? := fun o => by rw [cell_of_row w b _ cur 29 (0, 0) h1]
  have hfz : ∀ j, w.frozen? ⟨b, j, none⟩ = false := fun j => by simp [World.frozen?, h1]
  rcases h3 i with h3 | h3
  · have e : ∀ o, o < 8 → w.cell? ⟨b, i * 8 + o, none⟩ = d.cells[o]? := fun o ho => (hc o).trans ((h3 o ho).trans (h0c o ho))
    exact ⟨d, .inl rfl, ⟨e 0 (by omega), e 1 (by omega), e 2 (by omega), e 3 (by omega), e 4 (by omega), e 5 (by omega), e 6 (by omega), e 7 (by omega)⟩, hfz, cur0, h0, hsz⟩
  · have e : ∀ o, o < 8 → w.cell? ⟨b, i * 8 + o, none⟩ = d99.cells[o]? := fun o ho => (hc o).trans (h3 o ho)
    exact ⟨d99, .inr rfl, ⟨e 0 (by omega), e 1 (by omega), e 2 (by omega), e 3 (by omega), e 4 (by omega), e 5 (by omega), e 6 (by omega), e 7 (by omega)⟩, hfz, cur0, h0, hsz⟩
/-- what the loop carries -/
structure Sl (w0 w wr : World) (S : Nat → Prop) (d : TD) : Prop where
  ins : Ins w0 wr S
  fs : Fs w wr S
  tb : TB wr w.heap.size d
set_option maxRecDepth 100000 in
set_option maxHeartbeats 8000000 in
theorem spoil_any (w0 : World) (S : Nat → Prop) (hS : ∀ k, S k → k < w0.heap.size) : ∀ (t : Tm) (d : TD), TV w0 S t d → ∀ w : World, w0.heap.size ≤ w.heap.size → Ins w0 w S → Calls Try.prog 14 #[d.val] w (fun e w' => e = .returned (.tuple #[]) ∧ Ins w0 w' S ∧ Fs w w' S) := by
  intro t
  induction t using Tm.ind with
  | h op f lo hi ks ih =>
  intro d ht w hw hI
  cases ht with
  | mk _ _ _ _ _ q A c ds hq hl hn hk hr =>
  obtain ⟨n, hnn⟩ : ∃ n, ks.length = n := ⟨_, rfl⟩
  rw [hnn] at hn ⊢
  have nb := below_new w (.cells #[.int .i64 op, .int .u64 (uv (q 0)), .int .u64 (uv (q 1)), .int .u64 (uv (q 2)), .int .u64 (uv (q 3)), .int .i64 lo, .int .i64 hi, .slice A n c] 29)
  have L0 : Hid (Sl w0 w (w.alloc (.cells #[.int .i64 op, .int .u64 (uv (q 0)), .int .u64 (uv (q 1)), .int .u64 (uv (q 2)), .int .u64 (uv (q 3)), .int .i64 lo, .int .i64 hi, .slice A n c] 29)) S ⟨op, q, lo, hi, A, n, c⟩) := ⟨hI.keep fun k hk => nb.block k (by have := hS k hk; omega), Fs.below nb S, TB.new w ⟨op, q, lo, hi, A, n, c⟩⟩
  obtain ⟨⟨x0, x1, x2, x3, x4, x5, x6, x7⟩, -⟩ := L0.out.tb.all
  have IH := Lib.hid ih; have HK := Lib.hid hk; have HR := Lib.hid hr; have HL := Lib.hid hl; have HN := Lib.hid hnn
  clear ih hk hr hl hnn nb hI
  unfold TD.val
  go_enter Try.func14, Try.ntmps14
  go_wp2_with fail
  go_loopw [2] (fun v wr => ∃ i : Nat, i ≤ n ∧ v = .int .i64 (i : Nat) ∧ Hid (Sl w0 w wr S ⟨op, q, lo, hi, A, n, c⟩)) (fun v _ => n - (intOf v).toNat)
  case atStart => exact ⟨0, Nat.zero_le _, rfl, L0⟩
  case round =>
    obtain ⟨i, hi1, rfl, hL⟩ := hrel
    clear L0 x0 x1 x2 x3 x4 x5 x6 x7
    obtain ⟨⟨x0, x1, x2, x3, x4, x5, x6, x7⟩, -⟩ := hL.out.tb.all
    by_cases hlt : i < n
    · have qi : (i : Int) < (n : Int) := by omega
      have hi2 : i < ks.length := by have := HN.out; omega
      have hi4 : i < ds.length := by have h1 := HL.out; omega
      obtain ⟨b, rfl, hb, hrow⟩ := HR.out (by omega)
      obtain ⟨d', hd', ⟨a0, a1, a2, a3, a4, a5, a6, a7⟩, hfz, cur0, hc0, hsz⟩ := hL.out.ins.kid hb hrow (List.getElem?_eq_getElem hi4)
      have hblt := hS b hb
      have hm := List.getElem_mem hi2
      have htk := HK.out i _ _ (List.getElem?_eq_getElem hi2) (List.getElem?_eq_getElem hi4)
      have szr := hL.out.fs.size
      have D1 : Hid (Calls Try.prog 14 #[d'.val] wr (fun e w' => e = .returned (.tuple #[]) ∧ Ins w0 w' S ∧ Fs wr w' S)) := by
        rcases hd' with e | e
        · subst e; exact IH.out _ hm _ htk wr (by omega) hL.out.ins
        · subst e
          exact (spoil_none d99 rfl wr).mono fun e w' ⟨h1, h2⟩ => ⟨h1, hL.out.ins.keep fun k hk => h2.block k (by have := hS k hk; omega), Fs.below h2 S⟩
      have q6 : IntKind.i64.wrap ((i : Int) + 1) = ((i + 1 : Nat) : Int) := by rw [IntWalk.i64_in _ (by omega)]; omega
      have pn : ¬ S w.heap.size := fun h => by have := hS _ h; omega
      have HB := Lib.hid hb; have HRW := Lib.hid hrow; have HC0 := Lib.hid hc0
      have kbl : b < wr.heap.size := by omega
      clear hd' htk hm hi2 hb hrow hc0 hfz
      unfold TD.val at D1
      go_wp2_with fail
      refine D1.out.mono ?_
      rintro e w5 ⟨rfl, hi5, hf5⟩
      have L5 : Hid (Sl w0 w w5 S ⟨op, q, lo, hi, some ⟨b, 0, none⟩, n, c⟩) := ⟨hi5, hL.out.fs.trans hf5, (hf5.block _ hL.out.tb.lt pn).trans hL.out.tb⟩
      have sz5 := hf5.size
      clear D1 hL hi5 hf5 a0 a1 a2 a3 a4 a5 a6 a7 x0 x1 x2 x3 x4 x5 x6 x7
      obtain ⟨d5, -, ⟨a0, a1, a2, a3, a4, a5, a6, a7⟩, hfz, -⟩ := L5.out.ins.kid HB.out HRW.out (List.getElem?_eq_getElem hi4)
      obtain ⟨⟨x0, x1, x2, x3, x4, x5, x6, x7⟩, -⟩ := L5.out.tb.all
      have f0 := hfz (i * 8); have f1 := hfz (i * 8 + 1); have f2 := hfz (i * 8 + 2); have f3 := hfz (i * 8 + 3); have f4 := hfz (i * 8 + 4); have f5 := hfz (i * 8 + 5); have f6 := hfz (i * 8 + 6); have f7 := hfz (i * 8 + 7)
      have L6 : Hid (Sl w0 w (put99 w5 b (i * 8)) S ⟨op, q, lo, hi, some ⟨b, 0, none⟩, n, c⟩) := ⟨L5.out.ins.put99 HC0.out hsz, L5.out.fs.trans (Fs.put99 HB.out), (put99_heap w5 b _ _ (by omega)).trans L5.out.tb⟩
      have kb5 : b < w5.heap.size := by omega
      clear L5 hfz
      unfold put99 at L6
      go_wp2_with fail
      go_roundw
      case rel => exact ⟨i + 1, by omega, by simp, L6⟩
      case measure => simp [intOf]; omega
    · have qi : ¬ (i : Int) < (n : Int) := by omega
      go_wp2
      refine bodyPost_end (results_none rfl _ _ _) rfl ?_
      exact ⟨rfl, hL.out.ins, hL.out.fs⟩
end Go.Proofs.Ytkljagffccommaa
