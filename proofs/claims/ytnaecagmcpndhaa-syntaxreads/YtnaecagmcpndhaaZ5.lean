/- Rows of bytes that a call owns; parts of bytes. What the document's cat and Alt carry: tokens that are read, a row of terms of their own; slices of rows of tokens. What the document's cat and Alt have in common. -/
import Derived.Test.YtnaecagmcpndhaaU1
import Derived.Laws.AppendOwnNone
import Derived.Laws.OwnMore
import Derived.Laws.BytesArg
import Derived.Maps.AppendAt
import Derived.Deep.AppendLies
import Derived.Deep.Onto
import Derived.Test.YtnaecagmcpndhaaZ4
namespace Go.Proofs.Ytnaecagmcpndhaa
open Go.RowKit
theorem Try.info5 : (Try.prog.info? 5).map (fun i => (i.zero, i.size, i.bytes)) = some (some (.int .u8 0), 1, 1) := by kernel_rfl
def yvals (l : List Nat) : List Value := l.map fun (i : Nat) => Value.int .u8 (i : Int)
theorem yvals_one (l : List Nat) : ∀ u ∈ yvals l, u.oneCell' = true := by
  intro u hu
  unfold yvals at hu
  obtain ⟨i, _, rfl⟩ := List.mem_map.1 hu
  rfl
theorem len_yvals (l : List Nat) : (yvals l).length = l.length := by simp [yvals]
theorem bts_owns {w' : World} {b n c : Nat} {A : Option Addr} {l : List Nat} (hl : ∀ j, bn l j < 256) (hn : n = l.length) (h : w'.ownsRow b 5 1 (.slice A n c) n (yvals l)) : Bts w' A l := by
  subst hn
  rcases h.2 with ⟨hv, h0⟩ | ⟨g, cap, cur, hv, hg, hh, hc, _, _, ht⟩
  · exact ⟨hl, fun h => by omega⟩
  · injection hv with hA
    subst hA
    refine ⟨hl, fun _ => ⟨g, 0, rfl, (h.lt g rfl).2, fun j hj => ?_⟩⟩
    rw [Nat.zero_add, h.cellAt j (by omega)]
    simp [yvals, bn, hj, List.getD]
theorem bts_cells {w : World} {ad : Addr} {bs : List Nat} (hx : Bts w (some ad) bs) (j : Nat) (u : Value) (hj : (yvals bs)[j]? = some u) : w.cell? (ad.add j) = some u := by
  have hjl : j < bs.length := by
    rcases Nat.lt_or_ge j bs.length with h | h
    · exact h
    · rw [List.getElem?_eq_none (by simpa [yvals] using h)] at hj; cases hj
  obtain ⟨b, off, e, hlt, hc⟩ := hx.2 (by omega)
  injection e with e
  subst e
  have hadd : (⟨b, off, none⟩ : Addr).add j = ⟨b, off + j, none⟩ := by unfold Addr.add; split <;> simp_all
  rw [hadd, hc j hjl]
  simp [yvals, List.getElem?_eq_getElem hjl] at hj
  subst hj
  simp [bn, List.getD, List.getElem?_eq_getElem hjl]


/-- the row of bytes l, all of a block, is that slice's alone -/
def Own (w : World) (A : Option Addr) (c : Nat) (l : List Nat) : Prop := w.ownsRow 0 5 1 (.slice A l.length c) l.length (yvals l) ∧ (∀ x ∈ l, x < 256) ∧ (A = none → c = 0)
theorem Own.bts {w : World} {A : Option Addr} {c : Nat} {l : List Nat} (h : Own w A c l) : Bts w A l := bts_owns (mem_bn h.2.1) rfl h.1
theorem own_form {w : World} {n : Nat} {v : Value} {l : List Nat} (hn : n = l.length) (h : w.ownsRow 0 5 1 v n (yvals l)) : ∃ A c, v = .slice A l.length c ∧ (A = none → c = 0) := by
  subst hn
  rcases h.2 with ⟨e, h0⟩ | ⟨g, cap, cur, e, _⟩
  · exact ⟨none, 0, by rw [e, h0], fun _ => rfl⟩
  · exact ⟨_, cap, e, fun h => by cases h⟩


/-- bytes laid behind a row of the call's own -/
theorem appB {ops : Array Oper} {rest : List Oper} {o : Oper} {a : Act} {Q : Exit → Act → World → Prop} {w : World} (hgd : o.guard = none) (s x : Operand)
    (ho : o.op = .call { callee := .builtin .append, args := #[s, x], argTypes := #[23, 23] })
    (A : Option Addr) (c : Nat) (l : List Nat) (hown : Own w A c l) (A2 : Option Addr) (c2 : Nat) (bs : List Nat) (hx : Bts w A2 bs) (hA : A2 = none → c2 = 0) (lx : l.length + bs.length ≤ 140737488355328)
    (hs : a.eval s = .slice A l.length c) (hxx : a.eval x = .slice A2 bs.length c2)
    (h : ∀ A' c' l' w', Hid (l' = l ++ bs) → Own w' A' c' l' → w.grownBy w' (ow A) → Nr w A A' → wpList Try.prog ops Q rest (a.put o.dst (.slice A' l'.length c')) w') :
    wpList Try.prog ops Q (o :: rest) a w := by
  obtain ⟨i0, hi0, hz0, hz1, hz2⟩ := info_parts Try.info5
  have hmem : ∀ x ∈ l ++ bs, x < 256 := fun x hm => by
    rcases List.mem_append.1 hm with h | h
    · exact hown.2.1 x h
    · exact bn_mem hx.1 x h
  cases A2 with
  | none =>
    have h0 : bs.length = 0 := by
      rcases Nat.eq_zero_or_pos bs.length with h0 | h0
      · exact h0
      · obtain ⟨b, off, e, _⟩ := hx.2 h0; cases e
    obtain rfl : bs = [] := List.eq_nil_of_length_eq_zero h0
    obtain rfl := hA rfl
    refine wpList_append_own_none hgd s x 23 ho 0 5 i0 1 Try.underlying23 hi0 _ l.length (yvals l) hs hown.1 hxx ?_
    exact h A c l w (by show l = l ++ []; simp) hown ⟨rfl, rfl, rfl, Nat.le_refl _, fun _ _ _ => rfl⟩ (.inl rfl)
  | some ad =>
    refine wpList_append_own_at _ hgd s x 23 ho 0 5 i0 (.int .u8 0) 1 1 Try.underlying23 hi0 hz0 hz1 hz2 rfl (by omega) _ l.length (yvals l) hs hown.1 ad bs.length c2 (yvals bs) hxx (by simp [yvals]) (fun j u hj => bts_cells hx j u hj) (yvals_one bs) (by unfold maxLen; omega) (by omega) (Nat.zero_le _) ?_
    intro v' w' hown' hgrow _ hblk
    have hown2 : w'.ownsRow 0 5 1 v' (l ++ bs).length (yvals (l ++ bs)) := by
      rw [List.length_append]; unfold yvals at hown' ⊢; rw [List.map_append]; exact hown'
    obtain ⟨A', c', rfl, hn⟩ := own_form rfl hown2
    rw [ow_own, ow_own] at hblk
    refine h A' c' (l ++ bs) w' rfl ⟨hown2, hmem, hn⟩ (by rw [← ow_own A l.length c]; exact hgrow) ?_
    rcases hblk with e | e
    · exact .inl e
    · exact .inr ⟨_, e, Nat.le_refl _⟩


theorem own_new (w : World) : Own (w.alloc (.cells #[] 5)) (some ⟨w.heap.size, 0, none⟩) 0 [] :=
  ⟨World.ownsRow_lit (base := 0) (e := 5) (size := 1) w #[] 0 (Nat.zero_le _) (Nat.zero_le _) (by simp), fun x h => (by cases h), fun h => (by cases h)⟩
/-- a part of bytes -/
def sub (bs : List Nat) (lo hi : Nat) : List Nat := (bs.drop lo).take (hi - lo)
theorem len_sub (bs : List Nat) (lo hi : Nat) (h2 : hi ≤ bs.length) : (sub bs lo hi).length = hi - lo := by
  unfold sub; rw [List.length_take, List.length_drop]; omega
theorem bn_sub (bs : List Nat) (lo hi j : Nat) (hj : j < hi - lo) : bn (sub bs lo hi) j = bn bs (lo + j) := by
  unfold bn sub; simp [List.getD, List.getElem?_take, List.getElem?_drop, hj]
theorem sz5 (w : World) : (sizeOf (Try.prog.elem 23)).run Try.prog w = .ok 1 w := by kernel_rfl
theorem el23 : Try.prog.underlying 23 = some (.slice (Try.prog.elem 23)) := by kernel_rfl
theorem cut_any (A : Option Addr) (c : Nat) (bs : List Nat) (lo hi : Nat) (h1 : lo ≤ hi) (h2 : hi ≤ bs.length) (hc : bs.length ≤ c) (hA : A = none → c = 0) :
    ∃ A', (∀ W, Bts W A bs → Bts W A' (sub bs lo hi)) ∧ (A' = none → c - lo = 0) ∧ ow A' = ow A ∧
      (∀ W, (Instr.slice 23 (.slice A bs.length c) (some (.int .i64 (lo : Nat))) (some (.int .i64 (hi : Nat))) none).run Try.prog W = .ok (.slice A' (hi - lo) (c - lo)) W) ∧
      (lo = 0 → ∀ W, (Instr.slice 23 (.slice A bs.length c) none (some (.int .i64 (hi : Nat))) none).run Try.prog W = .ok (.slice A' (hi - lo) (c - lo)) W) ∧
      (hi = bs.length → ∀ W, (Instr.slice 23 (.slice A bs.length c) (some (.int .i64 (lo : Nat))) none none).run Try.prog W = .ok (.slice A' (hi - lo) (c - lo)) W) := by
  refine ⟨if c = lo then A else A.map (·.add (lo * 1)), ?_, ?_, ?_, ?_, ?_, ?_⟩
  · intro W hb
    refine ⟨mem_bn fun x hx => bn_mem hb.1 x (List.mem_of_mem_drop (List.mem_of_mem_take hx)), fun h0 => ?_⟩
    rw [len_sub _ _ _ h2] at h0 ⊢
    obtain ⟨b, off, rfl, hlt, hcell⟩ := hb.2 (by omega)
    rw [if_neg (by omega)]
    refine ⟨b, off + lo, ?_, hlt, fun j hj => ?_⟩
    · simp only [Option.map_some, Nat.mul_one, Addr.add]; split <;> simp_all
    · rw [Nat.add_assoc, hcell (lo + j) (by omega), bn_sub _ _ _ _ hj]
  · intro h
    by_cases e : c = lo
    · omega
    · rw [if_neg e] at h
      cases A with
      | none => have := hA rfl; omega
      | some a => cases h
  · split
    · rfl
    · cases A with
      | none => rfl
      | some a => simp [ow, Addr.add]; split <;> rfl
  · intro W
    rw [run_slice_lh W 23 A bs.length c el23 .i64 .i64 lo hi (by omega) (by omega) (by omega), sz5]
    simp [Result.andThen, sliced]
  · intro e W
    subst e
    rw [run_slice_h W 23 A bs.length c el23 .i64 hi (by omega) (by omega), sz5]
    simp [Result.andThen, sliced]
  · intro e W
    rw [run_slice_l W 23 A bs.length c el23 .i64 lo (by omega) (by omega), sz5]
    simp [Result.andThen, sliced, e]


end Go.Proofs.Ytnaecagmcpndhaa
namespace Go.Proofs.Ytnaecagmcpndhaa
open Go.RowKit
theorem szK (w : World) : (sizeOf (Try.prog.elem 52)).run Try.prog w = .ok 8 w := by kernel_rfl
theorem el52 : Try.prog.underlying 52 = some (.slice (Try.prog.elem 52)) := by kernel_rfl
/-- a piece of a row of tokens -/
def subK (ds : List KD) (lo hi : Nat) : List KD := (ds.drop lo).take (hi - lo)
theorem len_subK (ds : List KD) (lo hi : Nat) (h2 : hi ≤ ds.length) : (subK ds lo hi).length = hi - lo := by
  unfold subK; rw [List.length_take, List.length_drop]; omega
theorem cutK (A : Option Addr) (c : Nat) (ds : List KD) (lo hi : Nat) (h1 : lo ≤ hi) (h2 : hi ≤ ds.length) (hc : ds.length ≤ c) (hA : A = none → c = 0) :
    ∃ A', (∀ W, TkR W A ds → TkR W A' (subK ds lo hi)) ∧ (A' = none → c - lo = 0) ∧ ow A' = ow A ∧
      (∀ W, (Instr.slice 52 (.slice A ds.length c) (some (.int .i64 (lo : Nat))) (some (.int .i64 (hi : Nat))) none).run Try.prog W = .ok (.slice A' (subK ds lo hi).length (c - lo)) W) := by
  refine ⟨if c = lo then A else A.map (·.add (lo * 8)), ?_, ?_, ?_, ?_⟩
  · intro W hb h0
    rw [len_subK _ _ _ h2] at h0
    obtain ⟨b, off, rfl, hlt, hcell⟩ := hb (by omega)
    rw [if_neg (by omega)]
    have := TkR.sub hb lo (hi - lo)
    have e : (some (⟨b, off, none⟩ : Addr)).map (·.add (lo * 8)) = some ⟨b, off + lo * 8, none⟩ := by
      simp only [Option.map_some, Addr.add]; split <;> simp_all
    rw [e]
    exact this (by have := len_subK ds lo hi h2; unfold subK at this; omega)
  · intro h
    by_cases e : c = lo
    · omega
    · rw [if_neg e] at h
      cases A with
      | none => have := hA rfl; omega
      | some a => cases h
  · split
    · rfl
    · cases A with
      | none => rfl
      | some a => simp [ow, Addr.add]; split <;> rfl
  · intro W
    rw [len_subK _ _ _ h2, run_slice_lh W 52 A ds.length c el52 .i64 .i64 lo hi (by omega) (by omega) (by omega), szK]
    simp [Result.andThen, sliced]
/-- tokens and what tells them -/
def TkS (ds : List KD) (ts : List Tk) : Prop := ds.length = ts.length ∧ ∀ (i : Nat) (t : Tk) (d : KD), ts[i]? = some t → ds[i]? = some d → TkI t d
theorem TkS.sub {ds : List KD} {ts : List Tk} (h : TkS ds ts) (lo hi : Nat) : TkS (subK ds lo hi) ((ts.drop lo).take (hi - lo)) := by
  refine ⟨by unfold subK; simp [h.1], fun i t d h1 h2 => ?_⟩
  unfold subK at h2
  rw [List.getElem?_take] at h1 h2
  split at h1
  · rename_i hi
    rw [if_pos hi] at h2
    rw [List.getElem?_drop] at h1 h2
    exact h.2 _ t d h1 h2
  · cases h1
/-- the last term of a row comes some times -/
theorem Kd.quant {w : World} {N : Nat} {K : Option Addr} {c : Nat} {init : List TD} {d : TD} {ts : List Tm} {t : Tm} (h : Kd w N K c (init ++ [d]) (ts ++ [t])) (hN : N ≤ w.heap.size) (lo hi : Int) :
    ∃ b, K = some ⟨b, 0, none⟩ ∧ b < w.heap.size ∧ Kd (putT (w.alloc (.cells d.cells 29)) b (init.length * 8) ⟨8, fun _ => 0#64, lo, hi, some ⟨w.heap.size, 0, none⟩, 1, 1⟩) N K c (init ++ [⟨8, fun _ => 0#64, lo, hi, some ⟨w.heap.size, 0, none⟩, 1, 1⟩]) (ts ++ [.mk 8 noB lo hi [t]]) := by
  have hl : init.length = ts.length := by have := h.len; simp at this; exact this
  have own2 : OwnT (w.alloc (.cells d.cells 29)) K c (init ++ [d]) := h.own.below (below_new w _)
  obtain ⟨b, rfl, hown⟩ := own2.last ⟨8, fun _ => 0#64, lo, hi, some ⟨w.heap.size, 0, none⟩, 1, 1⟩
  have hb : b < w.heap.size := h.own.lt rfl
  have keep : ∀ k, k < w.heap.size → some k ≠ ow (some ⟨b, 0, none⟩) → (putT (w.alloc (.cells d.cells 29)) b (init.length * 8) ⟨8, fun _ => 0#64, lo, hi, some ⟨w.heap.size, 0, none⟩, 1, 1⟩).heap[k]? = w.heap[k]? := fun k hk hne => by
    rw [putT_heap _ _ _ _ _ (fun e => hne (by rw [e]; rfl))]
    exact Below.heap_alloc w _ k hk
  refine ⟨b, rfl, hb, hown, by simp [hl], fun i t' d' h1 h2 => ?_, h.blk⟩
  have sz : (putT (w.alloc (.cells d.cells 29)) b (init.length * 8) ⟨8, fun _ => 0#64, lo, hi, some ⟨w.heap.size, 0, none⟩, 1, 1⟩).heap.size = w.heap.size + 1 := by rw [putT_size]; exact World.size_alloc w _
  have mv : ∀ {x : Tm} {y : TD}, TV w (fun k => Sn N w k ∧ some k ≠ ow (some ⟨b, 0, none⟩)) x y → TV (putT (w.alloc (.cells d.cells 29)) b (init.length * 8) ⟨8, fun _ => 0#64, lo, hi, some ⟨w.heap.size, 0, none⟩, 1, 1⟩) (fun k => Sn N (putT (w.alloc (.cells d.cells 29)) b (init.length * 8) ⟨8, fun _ => 0#64, lo, hi, some ⟨w.heap.size, 0, none⟩, 1, 1⟩) k ∧ some k ≠ ow (some ⟨b, 0, none⟩)) x y := fun hx => hx.to fun k hk => ⟨⟨⟨hk.1.1, by rw [sz]; have := hk.1.2; omega⟩, hk.2⟩, fun hlt => keep k hlt hk.2⟩
  rcases Nat.lt_or_ge i ts.length with hi' | hi'
  · rw [List.getElem?_append_left hi'] at h1
    rw [List.getElem?_append_left (by omega)] at h2
    exact mv (h.el i t' d' (by rw [List.getElem?_append_left hi']; exact h1) (by rw [List.getElem?_append_left (by omega)]; exact h2))
  · have e1 : i = ts.length := by
      rcases Nat.lt_or_ge ts.length i with h' | h'
      · rw [List.getElem?_eq_none (by simp; omega)] at h1; cases h1
      · omega
    subst e1
    rw [List.getElem?_append_right (Nat.le_refl _)] at h1
    rw [List.getElem?_append_right (by omega), hl] at h2
    simp at h1 h2
    subst h1; subst h2
    refine .mk 8 noB lo hi [t] _ _ 1 [d] isK_zero rfl (by simp) (fun i t' d' h1 h2 => ?_) fun _ => ⟨w.heap.size, rfl, ⟨⟨by omega, by rw [sz]; omega⟩, fun e => ?_⟩, d.cells, ?_, ?_⟩
    · cases i with
      | zero =>
        simp at h1 h2
        subst h1; subst h2
        exact mv (h.el ts.length t d (by simp) (by rw [List.getElem?_append_right (by omega), hl]; simp))
      | succ i => simp at h1
    · injection e with e
      have e2 : w.heap.size = b := e
      omega
    · rw [putT_heap _ _ _ _ _ (by omega)]
      exact heap_alloc_new w _
    · simp [tcs, TD.cells]
/-- what the loops carry -/
structure Lc (w wr : World) (A : Option Addr) (dk : List KD) (K : Option Addr) (ck : Nat) (ds : List TD) (ts : List Tm) : Prop where
  tk : TkR wr A dk
  old : 0 < dk.length → ∀ k, ow A = some k → k < w.heap.size
  kd : Kd wr (w.heap.size + 1) K ck ds ts
  tb : TB wr w.heap.size zT
  bel : Below w.heap.size w wr
section
variable {w wr w' w'' : World} {A : Option Addr} {dk : List KD} {K K' : Option Addr} {ck ck' : Nat} {ds ds' : List TD} {ts : List Tm} {t : Tm} {d : TD}
theorem Lc.below (h : Lc w wr A dk K ck ds ts) (hb : Below wr.heap.size wr w') : Lc w w' A dk K ck ds ts :=
  ⟨h.tk.below hb, h.old, h.kd.fg (Fg.of_below hb 0) (by omega), h.tb.below hb, h.bel.trans (hb.mono h.bel.size)⟩
theorem Lc.drewN (h : Lc w wr A dk K ck ds ts) (n : Nat) : Lc w (wr.drewN n) A dk K ck ds ts := ⟨h.tk, h.old, h.kd.fg ((Fg.refl wr 0).drewN n) (by omega), h.tb, h.bel.trans ((((Fg.refl wr wr.heap.size).drewN n).below (Nat.le_refl _) (Nat.le_refl _)).mono h.bel.size)⟩
theorem Lc.push (h : Lc w wr A dk K ck ds ts) {M : Nat} (hM : w.heap.size + 1 ≤ M) (hA : ∀ k, ow K = some k → k < M) (hv : TV wr (Sn M wr) t d) (hd : ds' = ds ++ [d]) (ho : OwnT w' K' ck' ds') (hg : wr.grownBy w' (ow K)) (hr : Nr wr K K') : Lc w w' A dk K' ck' ds' (ts ++ [t]) := by
  have szt := h.tb.lt
  have hnk : ∀ k, k < w.heap.size + 1 → some k ≠ ow K := fun k hk e => by have := h.kd.blk k e.symm; omega
  refine ⟨fun h0 => h.tk.keeps hg.size (fun k hk e => hg.block k hk (hnk k (by have := h.old h0 k e; omega))) h0, h.old, h.kd.push (by omega) hv hM hA hd ho hg hr, (hg.block _ szt (hnk _ (by omega))).trans h.tb, h.bel.grown hg h.bel.size fun k hk => by have := h.kd.blk k hk; omega⟩
theorem Lc.quant {init : List TD} (h : Lc w wr A dk K ck (init ++ [d]) (ts ++ [t])) (lo hi : Int) :
    ∃ b, K = some ⟨b, 0, none⟩ ∧ b < wr.heap.size ∧ w.heap.size < b ∧ Lc w (putT (wr.alloc (.cells d.cells 29)) b (init.length * 8) ⟨8, fun _ => 0#64, lo, hi, some ⟨wr.heap.size, 0, none⟩, 1, 1⟩) A dk K ck (init ++ [⟨8, fun _ => 0#64, lo, hi, some ⟨wr.heap.size, 0, none⟩, 1, 1⟩]) (ts ++ [.mk 8 noB lo hi [t]]) := by
  have szt := h.tb.lt
  obtain ⟨b, rfl, hb, hk⟩ := h.kd.quant (by omega) lo hi
  have hbb := h.kd.blk b rfl
  have keep : ∀ k, k < wr.heap.size → k ≠ b → (putT (wr.alloc (.cells d.cells 29)) b (init.length * 8) ⟨8, fun _ => 0#64, lo, hi, some ⟨wr.heap.size, 0, none⟩, 1, 1⟩).heap[k]? = wr.heap[k]? := fun k hk hne => by rw [putT_heap _ _ _ _ _ hne]; exact Below.heap_alloc wr _ k hk
  have sz : (putT (wr.alloc (.cells d.cells 29)) b (init.length * 8) ⟨8, fun _ => 0#64, lo, hi, some ⟨wr.heap.size, 0, none⟩, 1, 1⟩).heap.size = wr.heap.size + 1 := by rw [putT_size]; exact World.size_alloc wr _
  have ev := putT_env (wr.alloc (.cells d.cells 29)) b (init.length * 8) ⟨8, fun _ => 0#64, lo, hi, some ⟨wr.heap.size, 0, none⟩, 1, 1⟩
  exact ⟨b, rfl, hb, by omega, fun h0 => h.tk.keeps (by omega) (fun k hk e => keep k hk (by have := h.old h0 k e; omega)) h0, h.old, hk, (keep _ szt (by omega)).trans h.tb,
    ⟨ev.1.trans h.bel.os, ev.2.1.trans h.bel.tape, ev.2.2.trans h.bel.output, by have := h.bel.size; omega, fun k hk => (keep k (by omega) (by omega)).trans (h.bel.block k hk)⟩⟩
end
end Go.Proofs.Ytnaecagmcpndhaa
namespace Go.Proofs.Ytnaecagmcpndhaa
open Go.RowKit
def GivT (w : World) (t : Tm) (e : Ending) (w' : World) : Prop := ∃ v, e = .returned v ∧ isTm w.heap.size w' t v ∧ Below w.heap.size w w'
/-- called with tokens a function answers their term -/
def ForT (f : Nat) (toks : List Tk) (t : Tm) : Prop := ∀ (A : Option Addr) (c : Nat) (dk : List KD) (w : World), TkS dk toks → TkR w A dk → dk.length ≤ c → (A = none → c = 0) → dk.length ≤ 200 → Calls Try.prog f #[.slice A dk.length c] w (GivT w t)
theorem bel_8 {w wr : World} (h : Below w.heap.size w wr) (a0 a1 a2 a3 a4 a5 a6 a7 : Value) : Below w.heap.size w (set8 wr w.heap.size a0 a1 a2 a3 a4 a5 a6 a7) :=
  ((Fg.of_below h w.heap.size).ends8 (Nat.le_refl _) _ _ _ _ _ _ _ _).below (Nat.le_refl _) (Nat.le_refl _)
theorem putT_alloc (w : World) (o : Obj) (b e : Nat) (d : TD) (h : b < w.heap.size) : putT (w.alloc o) b e d = (putT w b e d).alloc o := by
  unfold putT
  have k : ∀ (W : World) (p : Addr) (v : Value), (W.setCell p v).heap.size = W.heap.size := fun W p v => by simp [World.setCell]
  rw [World.setCell_alloc_past (hn := h), World.setCell_alloc_past (hn := by simp only [k]; exact h), World.setCell_alloc_past (hn := by simp only [k]; exact h), World.setCell_alloc_past (hn := by simp only [k]; exact h), World.setCell_alloc_past (hn := by simp only [k]; exact h), World.setCell_alloc_past (hn := by simp only [k]; exact h), World.setCell_alloc_past (hn := by simp only [k]; exact h), World.setCell_alloc_past (hn := by simp only [k]; exact h)]
theorem huo_of {us : List Un} {n : Nat} (h : Hid (UOk us true)) (hn : 0 < n) : Hid (UOk us (decide (0 < n))) := by rw [decide_eq_true hn]; exact h
theorem TkR.old {w : World} {A : Option Addr} {dk : List KD} (h : TkR w A dk) : 0 < dk.length → ∀ k, ow A = some k → k < w.heap.size := fun h0 k e => by
  obtain ⟨b, off, rfl, hlt, _⟩ := h h0
  simp [ow] at e; omega
/-- what cat and Alt begin with -/
theorem Lc.start {w : World} {A : Option Addr} {dk : List KD} (h : TkR w A dk) : Lc w ((w.alloc (.cells zT.cells 29)).alloc (.cells #[] 29)) A dk (some ⟨w.heap.size + 1, 0, none⟩) 0 [] [] := by
  have n1 := below_new w (.cells zT.cells 29)
  have n2 := below_new (w.alloc (.cells zT.cells 29)) (.cells #[] 29)
  have o1 := ownt_empty (w.alloc (.cells zT.cells 29))
  rw [World.size_alloc] at o1
  exact ⟨(h.below n1).below n2, h.old, ⟨o1, rfl, fun i t d h => by simp at h, fun k hk => by injection hk with hk; subst hk; exact Nat.le_refl _⟩, (TB.new w zT).below n2, n1.trans (n2.mono n1.size)⟩
end Go.Proofs.Ytnaecagmcpndhaa
