/- Rows of bytes that a call owns; parts of bytes. Classes: Has, Len, Bytes. Classes: Runs. The runs of a class cover just its bytes. The runs of a class, byte by byte. -/
import Derived.Test.YtkljagffccommaaU1
import Derived.Laws.AppendOwnNone
import Derived.Laws.OwnMore
import Derived.Laws.BytesArg
import Derived.Maps.AppendAt
import Derived.Deep.AppendLies
import Derived.Deep.Onto
import Derived.Test.YtkljagffccommaaG26
import Derived.Test.YtkljagffccommaaKP
namespace Go.Proofs.Ytkljagffccommaa
open Go.RowKit
theorem Try.info5 : (Try.prog.info? 5).map (fun i => (i.zero, i.size, i.bytes)) = some (some (.int .u8 0), 1, 1) := by kernel_rfl
def yvals (l : List Nat) : List Value := l.map fun (i : Nat) => Value.int .u8 (i : Int)
theorem yvals_one (l : List Nat) : ∀ u ∈ yvals l, u.oneCell' = true := by
  intro u hu
  unfold yvals at hu
  obtain ⟨i, _, rfl⟩ := List.mem_map.1 hu
  rfl
theorem len_yvals (l : List Nat) : (yvals l).length = l.length := by simp [yvals]
theorem bts_owns {w' : World} {b n c : Nat} {A : Option Addr} {l : List Nat} (hl : ∀ j, bn l j < 256) (hn : n = l.length) (h : w'.ownsRow b 5 1 (.slice A n c) n (yvals l)) : Bts w' A l := by
  subst hn
  rcases h.2 with ⟨hv, h0⟩ | ⟨g, cap, cur, hv, hg, hh, hc, _, _, ht⟩
  · exact ⟨hl, fun h => by omega⟩
  · injection hv with hA
    subst hA
    refine ⟨hl, fun _ => ⟨g, 0, rfl, (h.lt g rfl).2, fun j hj => ?_⟩⟩
    rw [Nat.zero_add, h.cellAt j (by omega)]
    simp [yvals, bn, hj, List.getD]
theorem bts_cells {w : World} {ad : Addr} {bs : List Nat} (hx : Bts w (some ad) bs) (j : Nat) (u : Value) (hj : (yvals bs)[j]? = some u) : w.cell? (ad.add j) = some u := by
  have hjl : j < bs.length := by
    rcases Nat.lt_or_ge j bs.length with h | h
    · exact h
    · rw [List.getElem?_eq_none (by simpa [yvals] using h)] at hj; cases hj
  obtain ⟨b, off, e, hlt, hc⟩ := hx.2 (by omega)
  injection e with e
  subst e
  have hadd : (⟨b, off, none⟩ : Addr).add j = ⟨b, off + j, none⟩ := by unfold Addr.add; split <;> simp_all
  rw [hadd, hc j hjl]
  simp [yvals, List.getElem?_eq_getElem hjl] at hj
  subst hj
  simp [bn, List.getD, List.getElem?_eq_getElem hjl]


/-- the row of bytes l, all of a block, is that slice's alone -/
def Own (w : World) (A : Option Addr) (c : Nat) (l : List Nat) : Prop := w.ownsRow 0 5 1 (.slice A l.length c) l.length (yvals l) ∧ (∀ x ∈ l, x < 256) ∧ (A = none → c = 0)
theorem Own.bts {w : World} {A : Option Addr} {c : Nat} {l : List Nat} (h : Own w A c l) : Bts w A l := bts_owns (mem_bn h.2.1) rfl h.1
theorem own_form {w : World} {n : Nat} {v : Value} {l : List Nat} (hn : n = l.length) (h : w.ownsRow 0 5 1 v n (yvals l)) : ∃ A c, v = .slice A l.length c ∧ (A = none → c = 0) := by
  subst hn
  rcases h.2 with ⟨e, h0⟩ | ⟨g, cap, cur, e, _⟩
  · exact ⟨none, 0, by rw [e, h0], fun _ => rfl⟩
  · exact ⟨_, cap, e, fun h => by cases h⟩


/-- bytes laid behind a row of the call's own -/
theorem appB {ops : Array Oper} {rest : List Oper} {o : Oper} {a : Act} {Q : Exit → Act → World → Prop} {w : World} (hgd : o.guard = none) (s x : Operand)
    (ho : o.op = .call { callee := .builtin .append, args := #[s, x], argTypes := #[23, 23] })
    (A : Option Addr) (c : Nat) (l : List Nat) (hown : Own w A c l) (A2 : Option Addr) (c2 : Nat) (bs : List Nat) (hx : Bts w A2 bs) (hA : A2 = none → c2 = 0) (lx : l.length + bs.length ≤ 140737488355328)
    (hs : a.eval s = .slice A l.length c) (hxx : a.eval x = .slice A2 bs.length c2)
    (h : ∀ A' c' l' w', Hid (l' = l ++ bs) → Own w' A' c' l' → w.grownBy w' (ow A) → Nr w A A' → wpList Try.prog ops Q rest (a.put o.dst (.slice A' l'.length c')) w') :
    wpList Try.prog ops Q (o :: rest) a w := by
  obtain ⟨i0, hi0, hz0, hz1, hz2⟩ := info_parts Try.info5
  have hmem : ∀ x ∈ l ++ bs, x < 256 := fun x hm => by
    rcases List.mem_append.1 hm with h | h
    · exact hown.2.1 x h
    · exact bn_mem hx.1 x h
  cases A2 with
  | none =>
    have h0 : bs.length = 0 := by
      rcases Nat.eq_zero_or_pos bs.length with h0 | h0
      · exact h0
      · obtain ⟨b, off, e, _⟩ := hx.2 h0; cases e
    obtain rfl : bs = [] := List.eq_nil_of_length_eq_zero h0
    obtain rfl := hA rfl
    refine wpList_append_own_none hgd s x 23 ho 0 5 i0 1 Try.underlying23 hi0 _ l.length (yvals l) hs hown.1 hxx ?_
    exact h A c l w (by show l = l ++ []; simp) hown ⟨rfl, rfl, rfl, Nat.le_refl _, fun _ _ _ => rfl⟩ (.inl rfl)
  | some ad =>
    refine wpList_append_own_at _ hgd s x 23 ho 0 5 i0 (.int .u8 0) 1 1 Try.underlying23 hi0 hz0 hz1 hz2 rfl (by omega) _ l.length (yvals l) hs hown.1 ad bs.length c2 (yvals bs) hxx (by simp [yvals]) (fun j u hj => bts_cells hx j u hj) (yvals_one bs) (by unfold maxLen; omega) (by omega) (Nat.zero_le _) ?_
    intro v' w' hown' hgrow _ hblk
    have hown2 : w'.ownsRow 0 5 1 v' (l ++ bs).length (yvals (l ++ bs)) := by
      rw [List.length_append]; unfold yvals at hown' ⊢; rw [List.map_append]; exact hown'
    obtain ⟨A', c', rfl, hn⟩ := own_form rfl hown2
    rw [ow_own, ow_own] at hblk
    refine h A' c' (l ++ bs) w' rfl ⟨hown2, hmem, hn⟩ (by rw [← ow_own A l.length c]; exact hgrow) ?_
    rcases hblk with e | e
    · exact .inl e
    · exact .inr ⟨_, e, Nat.le_refl _⟩


theorem own_new (w : World) : Own (w.alloc (.cells #[] 5)) (some ⟨w.heap.size, 0, none⟩) 0 [] :=
  ⟨World.ownsRow_lit (base := 0) (e := 5) (size := 1) w #[] 0 (Nat.zero_le _) (Nat.zero_le _) (by simp), fun x h => (by cases h), fun h => (by cases h)⟩
/-- a part of bytes -/
def sub (bs : List Nat) (lo hi : Nat) : List Nat := (bs.drop lo).take (hi - lo)
theorem len_sub (bs : List Nat) (lo hi : Nat) (h2 : hi ≤ bs.length) : (sub bs lo hi).length = hi - lo := by
  unfold sub; rw [List.length_take, List.length_drop]; omega
theorem bn_sub (bs : List Nat) (lo hi j : Nat) (hj : j < hi - lo) : bn (sub bs lo hi) j = bn bs (lo + j) := by
  unfold bn sub; simp [List.getD, List.getElem?_take, List.getElem?_drop, hj]
theorem sz5 (w : World) : (sizeOf (Try.prog.elem 23)).run Try.prog w = .ok 1 w := by kernel_rfl
theorem el23 : Try.prog.underlying 23 = some (.slice (Try.prog.elem 23)) := by kernel_rfl
theorem cut_any (A : Option Addr) (c : Nat) (bs : List Nat) (lo hi : Nat) (h1 : lo ≤ hi) (h2 : hi ≤ bs.length) (hc : bs.length ≤ c) (hA : A = none → c = 0) :
    ∃ A', (∀ W, Bts W A bs → Bts W A' (sub bs lo hi)) ∧ (A' = none → c - lo = 0) ∧ ow A' = ow A ∧
      (∀ W, (Instr.slice 23 (.slice A bs.length c) (some (.int .i64 (lo : Nat))) (some (.int .i64 (hi : Nat))) none).run Try.prog W = .ok (.slice A' (hi - lo) (c - lo)) W) ∧
      (lo = 0 → ∀ W, (Instr.slice 23 (.slice A bs.length c) none (some (.int .i64 (hi : Nat))) none).run Try.prog W = .ok (.slice A' (hi - lo) (c - lo)) W) ∧
      (hi = bs.length → ∀ W, (Instr.slice 23 (.slice A bs.length c) (some (.int .i64 (lo : Nat))) none none).run Try.prog W = .ok (.slice A' (hi - lo) (c - lo)) W) := by
  refine ⟨if c = lo then A else A.map (·.add (lo * 1)), ?_, ?_, ?_, ?_, ?_, ?_⟩
  · intro W hb
    refine ⟨mem_bn fun x hx => bn_mem hb.1 x (List.mem_of_mem_drop (List.mem_of_mem_take hx)), fun h0 => ?_⟩
    rw [len_sub _ _ _ h2] at h0 ⊢
    obtain ⟨b, off, rfl, hlt, hcell⟩ := hb.2 (by omega)
    rw [if_neg (by omega)]
    refine ⟨b, off + lo, ?_, hlt, fun j hj => ?_⟩
    · simp only [Option.map_some, Nat.mul_one, Addr.add]; split <;> simp_all
    · rw [Nat.add_assoc, hcell (lo + j) (by omega), bn_sub _ _ _ _ hj]
  · intro h
    by_cases e : c = lo
    · omega
    · rw [if_neg e] at h
      cases A with
      | none => have := hA rfl; omega
      | some a => cases h
  · split
    · rfl
    · cases A with
      | none => rfl
      | some a => simp [ow, Addr.add]; split <;> rfl
  · intro W
    rw [run_slice_lh W 23 A bs.length c el23 .i64 .i64 lo hi (by omega) (by omega) (by omega), sz5]
    simp [Result.andThen, sliced]
  · intro e W
    subst e
    rw [run_slice_h W 23 A bs.length c el23 .i64 hi (by omega) (by omega), sz5]
    simp [Result.andThen, sliced]
  · intro e W
    rw [run_slice_l W 23 A bs.length c el23 .i64 lo (by omega) (by omega), sz5]
    simp [Result.andThen, sliced, e]


end Go.Proofs.Ytkljagffccommaa
namespace Go.Proofs.Ytkljagffccommaa
open Go.RowKit
theorem rep85 : rep 85 8 = 6148914691236517205 := by decide
theorem rep51 : rep 51 8 = 3689348814741910323 := by decide
theorem rep15 : rep 15 8 = 1085102592571150095 := by decide

theorem and_u64 (a m : Nat) (ha : a < 18446744073709551616) (hm : m < 18446744073709551616) : bits .and .u64 (a : Int) (m : Int) = ((a &&& m : Nat) : Int) := u64_and_nat a m ha hm

theorem s1 (X : Nat) (h : X < 18446744073709551616) : IntKind.u64.wrap (bits .and .u64 ((X : Int) / 2) 6148914691236517205 + bits .and .u64 (X : Int) 6148914691236517205) = ((t1 8 X : Nat) : Int) ∧ t1 8 X ≤ 12297829382473034410 := by
  have e : ((X : Int) / 2) = ((X / 2 : Nat) : Int) := by omega
  have a1 := and_u64 (X / 2) 6148914691236517205 (by omega) (by decide)
  have a2 := and_u64 X 6148914691236517205 h (by decide)
  have l1 : X / 2 &&& 6148914691236517205 ≤ 6148914691236517205 := Nat.and_le_right
  have l2 : X &&& 6148914691236517205 ≤ 6148914691236517205 := Nat.and_le_right
  have et : t1 8 X = (X / 2 &&& 6148914691236517205) + (X &&& 6148914691236517205) := by unfold t1; rw [rep85]
  rw [e, et]
  rw [show ((6148914691236517205 : Int)) = ((6148914691236517205 : Nat) : Int) from rfl, a1, a2, IntKind.wrap_u64]
  omega
theorem s2 (X : Nat) (h : X < 18446744073709551616) : IntKind.u64.wrap (bits .and .u64 ((X : Int) / 4) 3689348814741910323 + bits .and .u64 (X : Int) 3689348814741910323) = ((t2 8 X : Nat) : Int) ∧ t2 8 X ≤ 7378697629483820646 := by
  have e : ((X : Int) / 4) = ((X / 4 : Nat) : Int) := by omega
  have a1 := and_u64 (X / 4) 3689348814741910323 (by omega) (by decide)
  have a2 := and_u64 X 3689348814741910323 h (by decide)
  have l1 : X / 4 &&& 3689348814741910323 ≤ 3689348814741910323 := Nat.and_le_right
  have l2 : X &&& 3689348814741910323 ≤ 3689348814741910323 := Nat.and_le_right
  have et : t2 8 X = (X / 4 &&& 3689348814741910323) + (X &&& 3689348814741910323) := by unfold t2; rw [rep51]
  rw [e, et]
  rw [show ((3689348814741910323 : Int)) = ((3689348814741910323 : Nat) : Int) from rfl, a1, a2, IntKind.wrap_u64]
  omega
theorem s3 (X : Nat) (h : X ≤ 7378697629483820646) : bits .and .u64 (IntKind.u64.wrap ((X : Int) / 16 + (X : Int))) 1085102592571150095 = ((t3 8 X : Nat) : Int) := by
  have e : IntKind.u64.wrap ((X : Int) / 16 + (X : Int)) = ((X / 16 + X : Nat) : Int) := by rw [IntKind.wrap_u64]; omega
  have et : t3 8 X = (X / 16 + X) &&& 1085102592571150095 := by unfold t3; rw [rep15]
  rw [e, et]
  exact and_u64 (X / 16 + X) 1085102592571150095 (by omega) (by decide)

theorem wrap_step (y m : Nat) (h : y + y / m < 18446744073709551616) : IntKind.u64.wrap ((y : Int) + (y : Int) / (m : Int)) = ((y + y / m : Nat) : Int) := by
  rw [IntKind.wrap_u64, ← Int.natCast_ediv]
  generalize y / m = q at *
  omega
theorem wrap_last (z : Nat) (_ : z < 9223372036854775808) : wrap64 (z : Int) % 128 = ((z % 128 : Nat) : Int) := by unfold wrap64; omega

theorem ones_math (X : Nat) (h : X < 18446744073709551616) (Y : Int) (hY : Y = (X : Int)) (a b c : Int)
    (ha : a = IntKind.u64.wrap (bits .and .u64 (Y / 2) 6148914691236517205 + bits .and .u64 Y 6148914691236517205))
    (hb : b = IntKind.u64.wrap (bits .and .u64 (a / 4) 3689348814741910323 + bits .and .u64 a 3689348814741910323))
    (hc : c = bits .and .u64 (IntKind.u64.wrap (b / 16 + b)) 1085102592571150095) (d e f : Int)
    (hd : d = IntKind.u64.wrap (c + c / 256)) (he : e = IntKind.u64.wrap (d + d / 65536)) (hf : f = IntKind.u64.wrap (e + e / 4294967296)) :
    bits .and .i64 (wrap64 f) 127 = ((popc X : Nat) : Int) := by
  subst hY
  obtain ⟨e1, l1⟩ := s1 X h
  rw [e1] at ha; subst ha
  obtain ⟨e2, l2⟩ := s2 (t1 8 X) (by omega)
  rw [e2] at hb; subst hb
  rw [s3 _ l2] at hc; subst hc
  have hp := pop_fold X
  generalize t3 8 (t2 8 (t1 8 X)) = y at *
  simp only [] at hp
  obtain ⟨p1, p2, p3, p4⟩ := hp
  have d1 : d = ((y + y / 256 : Nat) : Int) := by rw [hd]; exact wrap_step y 256 p1
  subst d1
  have d2 : e = ((y + y / 256 + (y + y / 256) / 65536 : Nat) : Int) := by rw [he]; exact wrap_step _ 65536 p2
  subst d2
  have d3 : f = ((y + y / 256 + (y + y / 256) / 65536 + (y + y / 256 + (y + y / 256) / 65536) / 4294967296 : Nat) : Int) := by rw [hf]; exact wrap_step _ 4294967296 (Nat.lt_trans p3 (by decide))
  subst d3
  rw [i64_and127, wrap_last _ p3, p4]

/-- how many bytes a class has -/
def cntK (q : Nat → BitVec 64) : Nat := (List.range 256).countP (kb q)
theorem word_cnt (q : Nat → BitVec 64) (j : Nat) : (List.range 64).countP (fun i => kb q (64 * j + i)) = popc (q j).toNat := by
  unfold popc
  apply List.countP_congr
  intro i hi
  have := List.mem_range.1 hi
  unfold kb
  rw [show (64 * j + i) / 64 = j by omega, show (64 * j + i) % 64 = i by omega]
  rfl
theorem cntK_sum (q : Nat → BitVec 64) : cntK q = popc (q 0).toNat + popc (q 1).toNat + popc (q 2).toNat + popc (q 3).toNat := by
  unfold cntK
  rw [show 256 = 192 + 64 from rfl, countP_add, show 192 = 128 + 64 from rfl, countP_add, show 128 = 64 + 64 from rfl, countP_add]
  rw [← word_cnt q 0, ← word_cnt q 1, ← word_cnt q 2, ← word_cnt q 3]
  simp
def sumK (q : Nat → BitVec 64) : Nat → Nat
  | 0 => 0
  | k + 1 => sumK q k + popc (q k).toNat
theorem sumK_le (q : Nat → BitVec 64) : ∀ k, sumK q k ≤ 64 * k
  | 0 => by simp [sumK]
  | k + 1 => by have := sumK_le q k; have := popc_le (q k).toNat; unfold sumK; omega
theorem sumK_four (q : Nat → BitVec 64) : sumK q 4 = cntK q := by rw [cntK_sum]; simp [sumK]
theorem cntK_le (q : Nat → BitVec 64) : cntK q ≤ 256 := by rw [← sumK_four]; exact sumK_le q 4

theorem idx0 (q : Nat → BitVec 64) (w : World) : (Instr.index 26 (.agg #[.int .u64 (uv (q 0)), .int .u64 (uv (q 1)), .int .u64 (uv (q 2)), .int .u64 (uv (q 3))]) (.int .i64 0)).run Try.prog w = .ok (.int .u64 (uv (q 0))) w := by kernel_rfl
theorem idx1 (q : Nat → BitVec 64) (w : World) : (Instr.index 26 (.agg #[.int .u64 (uv (q 0)), .int .u64 (uv (q 1)), .int .u64 (uv (q 2)), .int .u64 (uv (q 3))]) (.int .i64 1)).run Try.prog w = .ok (.int .u64 (uv (q 1))) w := by kernel_rfl
theorem idx2 (q : Nat → BitVec 64) (w : World) : (Instr.index 26 (.agg #[.int .u64 (uv (q 0)), .int .u64 (uv (q 1)), .int .u64 (uv (q 2)), .int .u64 (uv (q 3))]) (.int .i64 2)).run Try.prog w = .ok (.int .u64 (uv (q 2))) w := by kernel_rfl
theorem idx3 (q : Nat → BitVec 64) (w : World) : (Instr.index 26 (.agg #[.int .u64 (uv (q 0)), .int .u64 (uv (q 1)), .int .u64 (uv (q 2)), .int .u64 (uv (q 3))]) (.int .i64 3)).run Try.prog w = .ok (.int .u64 (uv (q 3))) w := by kernel_rfl
theorem idx_any (q : Nat → BitVec 64) (k : Nat) (hk : k < 4) (w : World) : (Instr.index 26 (.agg #[.int .u64 (uv (q 0)), .int .u64 (uv (q 1)), .int .u64 (uv (q 2)), .int .u64 (uv (q 3))]) (.int .i64 (k : Int))).run Try.prog w = .ok (.int .u64 (uv (q k))) w := by
  rcases (show k = 0 ∨ k = 1 ∨ k = 2 ∨ k = 3 by omega) with rfl | rfl | rfl | rfl
  · exact idx0 q w
  · exact idx1 q w
  · exact idx2 q w
  · exact idx3 q w

/-- the bytes of a class below n -/
def byl (q : Nat → BitVec 64) (n : Nat) : List Nat := (List.range n).filter (kb q)
theorem byl_skip (q : Nat → BitVec 64) (k : Nat) (h : kb q k = false) : byl q (k + 1) = byl q k := by
  unfold byl; rw [List.range_succ, List.filter_append]; simp [h]
theorem byl_take (q : Nat → BitVec 64) (k : Nat) (h : kb q k = true) : byl q (k + 1) = byl q k ++ [k] := by
  unfold byl; rw [List.range_succ, List.filter_append]; simp [h]
theorem byl_le (q : Nat → BitVec 64) (n : Nat) : (byl q n).length ≤ n := by
  have := List.length_filter_le (kb q) (List.range n)
  simpa [byl] using this
theorem byl_lt (q : Nat → BitVec 64) (n : Nat) (hn : n ≤ 256) (j : Nat) : bn (byl q n) j < 256 := by
  unfold bn
  rcases Nat.lt_or_ge j (byl q n).length with h | h
  · simp only [List.getD, List.getElem?_eq_getElem h, Option.getD_some]
    have hm : (byl q n)[j] ∈ byl q n := List.getElem_mem h
    unfold byl at hm
    have := List.mem_range.1 (List.mem_filter.1 hm).1
    exact Nat.lt_of_lt_of_le this hn
  · simp [List.getD, List.getElem?_eq_none h]
theorem yvals_snoc (l : List Nat) (i : Nat) : yvals l ++ [.int .u8 (i : Int)] = yvals (l ++ [i]) := by simp [yvals]

def GivesB (w : World) (l : List Nat) (e : Ending) (w' : World) : Prop :=
  ∃ A c, e = .returned (.slice A l.length c) ∧ Bts w' A l ∧ Below w.heap.size w w'
theorem givesB_owns {w w' : World} {v : Value} {l : List Nat} {n : Nat} (hl : ∀ j, bn l j < 256) (hn : n = l.length) (h : w'.ownsRow w.heap.size 5 1 v n (yvals l)) (hb : Below w.heap.size w w') : GivesB w l (.returned v) w' := by
  subst hn
  rcases h.2 with ⟨rfl, h0⟩ | ⟨g, cap, cur, rfl, hg, hh, hc, _, _, ht⟩
  · exact ⟨none, 0, by rw [h0], ⟨hl, fun h => by omega⟩, hb⟩
  · have hlt : g < w'.heap.size := (h.lt g rfl).2
    refine ⟨_, cap, rfl, ⟨hl, fun _ => ⟨g, 0, rfl, hlt, fun j hj => ?_⟩⟩, hb⟩
    rw [Nat.zero_add, h.cellAt j (by omega)]
    simp [yvals, bn, hj, List.getD]

/-- an append of one element onto a row of the call's own: the slice that comes has an address -/
theorem wpList_app1 {P : Program} {ops : Array Oper} {rest : List Oper} {o : Oper} {a : Act} {Q : Exit → Act → World → Prop} {w0 : World} (hgd : o.guard = none) (s x : Operand) (t : TypeId)
    (ho : o.op = .call { callee := .builtin .append, args := #[s, x], argTypes := #[t, t] })
    (base : Nat) (e : TypeId) (i : TypeInfo) (z : Value) (bytes : Nat) (ht : P.underlying t = some (.slice e)) (hi : P.info? e = some i) (hz : i.zero = some z)
    (hsize : i.size = 1) (hby : i.bytes = bytes) (hzs : z.cells.size = 1)
    (v : Value) (n : Nat) (xs : List Value) (hs : a.eval s = v) (hown : w0.ownsRow base e 1 v n xs)
    (u : Value) (hx : a.eval x = .slice (some ⟨w0.heap.size, 0, none⟩) 1 1) (h1 : u.oneCell' = true)
    (h63 : n + 1 ≤ maxLen) (hbytes : (n + 1) * bytes ≤ 140737488355328) (wS : World) (hB : Below base wS w0) (hbase : base ≤ w0.heap.size)
    (h : ∀ g cap w', w'.ownsRow base e 1 (.slice (some ⟨g, 0, none⟩) (n + 1) cap) (n + 1) (xs ++ [u]) → Below base wS w' → wpList P ops Q rest (a.put o.dst (.slice (some ⟨g, 0, none⟩) (n + 1) cap)) w') :
    wpList P ops Q (o :: rest) a (w0.alloc (.cells #[u] e)) := by
  refine wpList_append_own _ hgd s x t ho base e i z 1 bytes ht hi hz hsize hby hzs (by omega) v n xs hs (hown.alloc _) ⟨w0.heap.size, 0, none⟩ 1 1 [u] hx rfl (cell_one_new _ _ _) ?_ h63 hbytes ?_ ?_
  · intro y hy; simp at hy; subst hy; exact h1
  · simp; omega
  · intro v' w' hown' hgrow _
    obtain ⟨g, cap, hv, _, _⟩ := hown'.form (by omega)
    rw [hv] at hown' ⊢
    refine h g cap w' hown' ((hB.alloc hbase _).grown hgrow (by simp; omega) fun k hk => ?_)
    exact (hown.lt k hk).1

theorem owns_below {w w' : World} {base n : Nat} {e : TypeId} {v : Value} {xs : List Value} (h : w.ownsRow base e 1 v n xs) (hb : Below w.heap.size w w') : w'.ownsRow base e 1 v n xs :=
  h.kept (row := none) ⟨hb.os, hb.tape, hb.output, hb.size, fun j hj _ => hb.block j hj⟩ (by
    cases hv : v.ownBlock
    · exact Or.inl rfl
    · exact Or.inr (by simp))
theorem owns_mono {w : World} {base base' n : Nat} {e : TypeId} {v : Value} {xs : List Value} (h : w.ownsRow base e 1 v n xs) (hb : base' ≤ base) : w.ownsRow base' e 1 v n xs := by
  refine ⟨h.1, ?_⟩
  rcases h.2 with h0 | ⟨g, cap, cur, h1, h2, h3⟩
  · exact Or.inl h0
  · exact Or.inr ⟨g, cap, cur, h1, Nat.le_trans hb h2, h3⟩

end Go.Proofs.Ytkljagffccommaa
namespace Go.Proofs.Ytkljagffccommaa
open Go.RowKit
theorem Try.info117 : (Try.prog.info? 117).map (fun i => (i.zero, i.size, i.bytes)) = some (some (.agg #[.int .u8 0, .int .u8 0]), 2, 2) := by kernel_rfl

/-- the pairs as cells -/
def pcells (l : List (Nat × Nat)) : List Value := l.flatMap fun p => [.int .u8 (p.1 : Nat), .int .u8 (p.2 : Nat)]
theorem len_pcells (l : List (Nat × Nat)) : (pcells l).length = l.length * 2 := by
  induction l with
  | nil => rfl
  | cons p r ih => simp [pcells] at *; omega
theorem pcells_at (l : List (Nat × Nat)) : ∀ j, j < l.length → (pcells l)[j * 2]? = some (.int .u8 ((pr l j).1 : Nat)) ∧ (pcells l)[j * 2 + 1]? = some (.int .u8 ((pr l j).2 : Nat)) := by
  induction l with
  | nil => intro j h; simp at h
  | cons p r ih =>
    intro j h
    cases j with
    | zero => simp [pcells, pr]
    | succ j =>
      have := ih j (by simpa using h)
      rw [show (j + 1) * 2 = j * 2 + 2 by omega]
      simp only [pcells, List.flatMap_cons] at this ⊢
      simpa [pr] using this
theorem pcells_snoc (l : List (Nat × Nat)) (p : Nat × Nat) : pcells l ++ [.int .u8 (p.1 : Nat), .int .u8 (p.2 : Nat)] = pcells (l ++ [p]) := by simp [pcells]

theorem pcells_set (l : List (Nat × Nat)) : ∀ j, j < l.length → ∀ x : Nat, pcells (l.set j ((pr l j).1, x)) = (pcells l).set (j * 2 + 1) (.int .u8 (x : Nat)) := by
  induction l with
  | nil => intro j h; simp at h
  | cons p r ih =>
    intro j h x
    cases j with
    | zero => simp [pcells, pr]
    | succ j =>
      have := ih j (by simpa using h) x
      rw [show (j + 1) * 2 + 1 = (j * 2 + 1) + 2 by omega]
      simp only [pcells, List.flatMap_cons, List.set_cons_succ] at this ⊢
      simpa [pr] using this

theorem wpList_app2 {P : Program} {ops : Array Oper} {rest : List Oper} {o : Oper} {a : Act} {Q : Exit → Act → World → Prop} {w0 : World} (hgd : o.guard = none) (s x : Operand) (t : TypeId)
    (ho : o.op = .call { callee := .builtin .append, args := #[s, x], argTypes := #[t, t] })
    (base : Nat) (e : TypeId) (i : TypeInfo) (z : Value) (bytes : Nat) (ht : P.underlying t = some (.slice e)) (hi : P.info? e = some i) (hz : i.zero = some z)
    (hsize : i.size = 2) (hby : i.bytes = bytes) (hzs : z.cells.size = 2)
    (v : Value) (n : Nat) (xs : List Value) (hs : a.eval s = v) (hown : w0.ownsRow base e 2 v n xs)
    (u1 u2 : Value) (hx : a.eval x = .slice (some ⟨w0.heap.size, 0, none⟩) 1 1) (h1 : u1.oneCell' = true) (h2 : u2.oneCell' = true)
    (h63 : n + 1 ≤ maxLen) (hbytes : (n + 1) * bytes ≤ 140737488355328) (wS : World) (hB : Below base wS w0) (hbase : base ≤ w0.heap.size)
    (h : ∀ g cap w', w'.ownsRow base e 2 (.slice (some ⟨g, 0, none⟩) (n + 1) cap) (n + 1) (xs ++ [u1, u2]) → Below base wS w' → wpList P ops Q rest (a.put o.dst (.slice (some ⟨g, 0, none⟩) (n + 1) cap)) w') :
    wpList P ops Q (o :: rest) a (w0.alloc (.cells #[u1, u2] e)) := by
  refine wpList_append_own _ hgd s x t ho base e i z 2 bytes ht hi hz hsize hby hzs (by omega) v n xs hs (hown.alloc _) ⟨w0.heap.size, 0, none⟩ 1 1 [u1, u2] hx rfl ?_ ?_ h63 hbytes ?_ ?_
  · intro j u hj
    have hh := fun k => cell_of_row (w0.alloc (.cells #[u1, u2] e)) w0.heap.size k #[u1, u2] e (0, 0) (heap_alloc_new w0 _)
    match j, hj with
    | 0, hj => simp at hj; subst hj; exact (hh 0).trans rfl
    | 1, hj => simp at hj; subst hj; exact (hh 1).trans rfl
  · intro y hy; simp at hy; rcases hy with rfl | rfl
    · exact h1
    · exact h2
  · simp; omega
  · intro v' w' hown' hgrow _
    obtain ⟨g, cap, hv, _, _⟩ := hown'.form (by omega)
    rw [hv] at hown' ⊢
    refine h g cap w' hown' ((hB.alloc hbase _).grown hgrow (by simp; omega) fun k hk => ?_)
    exact (hown.lt k hk).1

theorem len_runsK (l : List Nat) : ∀ k, (runsK l k).length ≤ k
  | 0 => by simp [runsK]
  | k + 1 => by
    have := len_runsK l k
    unfold runsK stepR
    split
    · simp; omega
    · simp; omega

/-- a new list of pairs -/
def Prs (w : World) (A : Option Addr) (l : List (Nat × Nat)) : Prop :=
  0 < l.length → ∃ g, A = some ⟨g, 0, none⟩ ∧ g < w.heap.size ∧ ∀ j, j < l.length → w.cell? ⟨g, j * 2, none⟩ = some (.int .u8 ((pr l j).1 : Nat)) ∧ w.cell? ⟨g, j * 2 + 1, none⟩ = some (.int .u8 ((pr l j).2 : Nat))
theorem Prs.below {w w' : World} {A : Option Addr} {l : List (Nat × Nat)} (h : Prs w A l) (hb : Below w.heap.size w w') : Prs w' A l := fun h0 => by
  obtain ⟨g, e, hlt, hc⟩ := h h0
  exact ⟨g, e, Nat.lt_of_lt_of_le hlt hb.size, fun j hj => ⟨(hb.cell (p := ⟨g, j * 2, none⟩) hlt).trans (hc j hj).1, (hb.cell (p := ⟨g, j * 2 + 1, none⟩) hlt).trans (hc j hj).2⟩⟩
def GivesR (w : World) (l : List (Nat × Nat)) (e : Ending) (w' : World) : Prop := ∃ A c, e = .returned (.slice A l.length c) ∧ Prs w' A l ∧ Below w.heap.size w w'
theorem prs_owns {w w' : World} {A : Option Addr} {c : Nat} {l : List (Nat × Nat)} (h : w'.ownsRow w.heap.size 117 2 (.slice A l.length c) l.length (pcells l)) : Prs w' A l := fun h0 => by
  obtain ⟨g, cap, hv, _, hlt⟩ := h.form h0
  injection hv with hA hn hc
  subst hA
  refine ⟨g, rfl, hlt, fun j hj => ?_⟩
  have h1 := h.cellAt (j * 2) (by omega)
  have h2 := h.cellAt (j * 2 + 1) (by omega)
  have h3 := pcells_at l j hj
  exact ⟨h1.trans h3.1, h2.trans h3.2⟩

end Go.Proofs.Ytkljagffccommaa
namespace Go.Proofs.Ytkljagffccommaa
open Go.RowKit
theorem pr_snoc (rs : List (Nat × Nat)) (v : Nat × Nat) (j : Nat) : pr (rs ++ [v]) j = if j < rs.length then pr rs j else if j = rs.length then v else (0, 0) := by
  unfold pr
  by_cases h : j < rs.length
  · rw [if_pos h, List.getD, List.getD, List.getElem?_append_left h]
  · rw [if_neg h, List.getD, List.getElem?_append_right (by omega)]
    by_cases e : j = rs.length
    · subst e; simp
    · rw [if_neg e, List.getElem?_eq_none (by simp; omega)]; rfl
theorem pr_set (rs : List (Nat × Nat)) (v : Nat × Nat) (n j : Nat) (hn : n < rs.length) : pr (rs.set n v) j = if j = n then v else pr rs j := by
  unfold pr
  rw [List.getD, List.getD, List.getElem?_set]
  by_cases e : n = j
  · subst e; simp [hn]
  · have e' : ¬ j = n := fun h => e h.symm
    simp [e, e']

/-- the byte i is in one of the first k runs -/
def cov (rs : List (Nat × Nat)) (k i : Nat) : Prop := ∃ j, j < k ∧ (pr rs j).1 ≤ i ∧ i ≤ (pr rs j).2
instance (rs : List (Nat × Nat)) (k i : Nat) : Decidable (cov rs k i) := by unfold cov; infer_instance

theorem runs_inv (l : List Nat) (hl : ∀ j, 0 < j → j < l.length → bn l (j - 1) < bn l j) (h256 : ∀ j, bn l j < 256) : ∀ k, k ≤ l.length →
    (∀ i, cov (runsK l k) (runsK l k).length i ↔ ∃ j, j < k ∧ bn l j = i) ∧
    (0 < (runsK l k).length → 0 < k ∧ (pr (runsK l k) ((runsK l k).length - 1)).2 = bn l (k - 1) ∧ (pr (runsK l k) ((runsK l k).length - 1)).1 ≤ (pr (runsK l k) ((runsK l k).length - 1)).2) ∧
    (∀ j, (pr (runsK l k) j).1 < 256 ∧ (pr (runsK l k) j).2 < 256)
  | 0, _ => by
    refine ⟨fun i => ⟨?_, ?_⟩, fun h => by simp [runsK] at h, fun j => by simp [runsK, pr]⟩
    · rintro ⟨j, hj, _⟩; simp [runsK] at hj
    · rintro ⟨j, hj, _⟩; omega
  | k + 1, hk => by
    obtain ⟨hA, hB, hC⟩ := runs_inv l hl h256 k (by omega)
    have hx : ∀ i, (∃ j, j < k + 1 ∧ bn l j = i) ↔ (∃ j, j < k ∧ bn l j = i) ∨ i = bn l k := fun i => by
      constructor
      · rintro ⟨j, hj, e⟩
        by_cases e2 : j = k
        · subst e2; exact Or.inr e.symm
        · exact Or.inl ⟨j, by omega, e⟩
      · rintro (⟨j, hj, e⟩ | e)
        · exact ⟨j, by omega, e⟩
        · exact ⟨k, by omega, e.symm⟩
    have hb := h256 k
    show (∀ i, cov (stepR (runsK l k) (bn l k)) (stepR (runsK l k) (bn l k)).length i ↔ _) ∧ _
    rw [show runsK l (k + 1) = stepR (runsK l k) (bn l k) from rfl]
    generalize runsK l k = rs at hA hB hC ⊢
    unfold stepR
    by_cases hc : 0 < rs.length ∧ (pr rs (rs.length - 1)).2 = (bn l k + 255) % 256
    · rw [if_pos hc]
      obtain ⟨h0, h1⟩ := hc
      obtain ⟨k0, e1, e2⟩ := hB h0
      have hm := hl k k0 (by omega)
      have hlo : (pr rs (rs.length - 1)).1 ≤ bn l k := by omega
      have hhi : (pr rs (rs.length - 1)).2 + 1 = bn l k := by omega
      refine ⟨fun i => ?_, fun _ => ?_, fun j => ?_⟩
      · rw [hx, ← hA]
        unfold cov
        rw [List.length_set]
        constructor
        · rintro ⟨j, hj, h⟩
          rw [pr_set _ _ _ _ (by omega)] at h
          by_cases e : j = rs.length - 1
          · rw [if_pos e] at h
            by_cases e3 : i = bn l k
            · exact Or.inr e3
            · refine Or.inl ⟨rs.length - 1, by omega, h.1, ?_⟩
              have := h.2; simp only at this; omega
          · rw [if_neg e] at h; exact Or.inl ⟨j, hj, h⟩
        · rintro (⟨j, hj, h⟩ | e)
          · refine ⟨j, hj, ?_⟩
            rw [pr_set _ _ _ _ (by omega)]
            by_cases e : j = rs.length - 1
            · rw [if_pos e]; subst e; exact ⟨h.1, by have := h.2; simp only; omega⟩
            · rw [if_neg e]; exact h
          · refine ⟨rs.length - 1, by omega, ?_⟩
            rw [pr_set _ _ _ _ (by omega), if_pos rfl]
            exact ⟨by simp only; omega, by simp only; omega⟩
      · rw [List.length_set, pr_set _ _ _ _ (by omega), if_pos rfl]
        exact ⟨by omega, by simp, hlo⟩
      · rw [pr_set _ _ _ _ (by omega)]
        split
        · exact ⟨(hC _).1, hb⟩
        · exact hC j
    · rw [if_neg hc]
      refine ⟨fun i => ?_, fun _ => ?_, fun j => ?_⟩
      · rw [hx, ← hA]
        unfold cov
        rw [List.length_append, List.length_singleton]
        constructor
        · rintro ⟨j, hj, h⟩
          rw [pr_snoc] at h
          by_cases e : j < rs.length
          · rw [if_pos e] at h; exact Or.inl ⟨j, e, h⟩
          · rw [if_neg e, if_pos (by omega)] at h
            refine Or.inr ?_
            have h1 := h.1; have h2 := h.2; simp only at h1 h2; omega
        · rintro (⟨j, hj, h⟩ | e)
          · exact ⟨j, by omega, by rw [pr_snoc, if_pos hj]; exact h⟩
          · refine ⟨rs.length, by omega, ?_⟩
            rw [pr_snoc, if_neg (by omega), if_pos rfl]
            exact ⟨by simp only; omega, by simp only; omega⟩
      · rw [List.length_append, List.length_singleton, Nat.add_sub_cancel, pr_snoc, if_neg (by omega), if_pos rfl]
        exact ⟨by omega, by simp, Nat.le_refl _⟩
      · rw [pr_snoc]
        split
        · exact hC j
        · split
          · exact ⟨hb, hb⟩
          · exact ⟨by simp, by simp⟩

theorem byl_up (q : Nat → BitVec 64) (j : Nat) (h0 : 0 < j) (hj : j < (byl q 256).length) : bn (byl q 256) (j - 1) < bn (byl q 256) j := by
  have hs : (byl q 256).Pairwise (· < ·) := List.Pairwise.filter _ List.pairwise_lt_range
  unfold bn
  rw [List.getD, List.getD, List.getElem?_eq_getElem hj, List.getElem?_eq_getElem (by omega)]
  exact List.pairwise_iff_getElem.1 hs (j - 1) j (by omega) hj (by omega)
theorem byl_mem (q : Nat → BitVec 64) (i : Nat) (hi : i < 256) : (∃ j, j < (byl q 256).length ∧ bn (byl q 256) j = i) ↔ kb q i = true := by
  have h1 : i ∈ byl q 256 ↔ kb q i = true := by unfold byl; simp [hi]
  rw [← h1, List.mem_iff_getElem]
  constructor
  · rintro ⟨j, hj, e⟩
    refine ⟨j, hj, ?_⟩
    unfold bn at e
    rw [List.getD, List.getElem?_eq_getElem hj] at e
    exact e
  · rintro ⟨j, hj, e⟩
    refine ⟨j, hj, ?_⟩
    unfold bn
    rw [List.getD, List.getElem?_eq_getElem hj]
    exact e
/-- the runs of a class -/
def rq (q : Nat → BitVec 64) : List (Nat × Nat) := runsK (byl q 256) (byl q 256).length
theorem rq_cov (q : Nat → BitVec 64) (i : Nat) (hi : i < 256) : decide (cov (rq q) (rq q).length i) = kb q i := by
  have h := (runs_inv (byl q 256) (fun j h0 hj => byl_up q j h0 hj) (fun j => byl_lt q 256 (by omega) j) _ (Nat.le_refl _)).1 i
  rw [Bool.eq_iff_iff, decide_eq_true_eq]
  exact h.trans (byl_mem q i hi)
theorem rq_lt (q : Nat → BitVec 64) (j : Nat) : (pr (rq q) j).1 < 256 ∧ (pr (rq q) j).2 < 256 :=
  (runs_inv (byl q 256) (fun j h0 hj => byl_up q j h0 hj) (fun j => byl_lt q 256 (by omega) j) _ (Nat.le_refl _)).2.2 j
theorem rq_le (q : Nat → BitVec 64) : (rq q).length ≤ 256 := Nat.le_trans (len_runsK _ _) (byl_le q 256)
theorem cov_succ (rs : List (Nat × Nat)) (k i : Nat) : decide (cov rs (k + 1) i) = (decide (cov rs k i) || rgF (pr rs k).1 (pr rs k).2 i) := by
  unfold rgF
  rw [Bool.eq_iff_iff]
  simp only [Bool.or_eq_true, decide_eq_true_eq]
  unfold cov
  constructor
  · rintro ⟨j, hj, h⟩
    by_cases e : j = k
    · subst e; exact Or.inr h
    · exact Or.inl ⟨j, by omega, h⟩
  · rintro (⟨j, hj, h⟩ | h)
    · exact ⟨j, by omega, h⟩
    · exact ⟨k, by omega, h⟩
end Go.Proofs.Ytkljagffccommaa
namespace Go.Proofs.Ytkljagffccommaa
open Go.RowKit
/-- the runs of the bytes below n -/
def Rn (q : Nat → BitVec 64) (n : Nat) : List (Nat × Nat) := runsK (byl q n) (byl q n).length
theorem runsK_snoc (l : List Nat) (x : Nat) : ∀ k, k ≤ l.length → runsK (l ++ [x]) k = runsK l k
  | 0, _ => rfl
  | k + 1, h => by
    have e : bn (l ++ [x]) k = bn l k := by unfold bn; rw [List.getD, List.getD, List.getElem?_append_left (by omega)]
    rw [runsK, runsK, runsK_snoc l x k (by omega), e]
theorem Rn_zero (q : Nat → BitVec 64) : Rn q 0 = [] := rfl
theorem Rn_skip (q : Nat → BitVec 64) (n : Nat) (h : kb q n = false) : Rn q (n + 1) = Rn q n := by unfold Rn; rw [byl_skip q n h]
theorem Rn_take (q : Nat → BitVec 64) (n : Nat) (h : kb q n = true) : Rn q (n + 1) = stepR (Rn q n) n := by
  unfold Rn
  rw [byl_take q n h, List.length_append, List.length_singleton, runsK, runsK_snoc _ _ _ (Nat.le_refl _)]
  congr 1
  unfold bn
  rw [List.getD, List.getElem?_append_right (Nat.le_refl _)]
  simp
theorem byl_up' (q : Nat → BitVec 64) (n j : Nat) (h0 : 0 < j) (hj : j < (byl q n).length) : bn (byl q n) (j - 1) < bn (byl q n) j := by
  have hs : (byl q n).Pairwise (· < ·) := List.Pairwise.filter _ List.pairwise_lt_range
  unfold bn
  rw [List.getD, List.getD, List.getElem?_eq_getElem hj, List.getElem?_eq_getElem (by omega)]
  exact List.pairwise_iff_getElem.1 hs (j - 1) j (by omega) hj (by omega)
theorem bynn_mem (q : Nat → BitVec 64) (n j : Nat) (hj : j < (byl q n).length) : bn (byl q n) j < n ∧ kb q (bn (byl q n) j) = true := by
  have hm : (byl q n)[j] ∈ byl q n := List.getElem_mem hj
  have e : bn (byl q n) j = (byl q n)[j] := by unfold bn; rw [List.getD, List.getElem?_eq_getElem hj]; rfl
  rw [e]
  have h2 := List.mem_filter.1 (show (byl q n)[j] ∈ (List.range n).filter (kb q) from hm)
  exact ⟨List.mem_range.1 h2.1, h2.2⟩
theorem Rn_last (q : Nat → BitVec 64) (n : Nat) (hn : n ≤ 256) (h0 : 0 < (Rn q n).length) : (pr (Rn q n) ((Rn q n).length - 1)).2 < n ∧ kb q (pr (Rn q n) ((Rn q n).length - 1)).2 = true := by
  have hi := (runs_inv (byl q n) (fun j a b => byl_up' q n j a b) (fun j => byl_lt q n hn j) _ (Nat.le_refl _)).2.1 h0
  unfold Rn
  rw [hi.2.1]
  exact bynn_mem q n _ (by have := hi.1; omega)
theorem Rn_first (q : Nat → BitVec 64) (n : Nat) (hn : n < 256) (h1 : n = 0 ∨ kb q (n - 1) = false) (h : kb q n = true) : Rn q (n + 1) = Rn q n ++ [(n, n)] := by
  rw [Rn_take q n h]
  unfold stepR
  rw [if_neg]
  rintro ⟨h0, e⟩
  obtain ⟨a, b⟩ := Rn_last q n (by omega) h0
  rw [e] at a b
  rcases h1 with rfl | h1
  · omega
  · rw [show (n + 255) % 256 = n - 1 by omega] at b
    rw [h1] at b; cases b
theorem Rn_block (q : Nat → BitVec 64) (n : Nat) (h1 : n = 0 ∨ kb q (n - 1) = false) : ∀ d, n + d < 256 → (∀ j, n ≤ j → j ≤ n + d → kb q j = true) → Rn q (n + d + 1) = Rn q n ++ [(n, n + d)]
  | 0, hn, hk => Rn_first q n (by omega) h1 (hk n (Nat.le_refl _) (by omega))
  | d + 1, hn, hk => by
    have ih := Rn_block q n h1 d (by omega) (fun j a b => hk j a (by omega))
    rw [show n + (d + 1) = n + d + 1 by omega, Rn_take q (n + d + 1) (hk _ (by omega) (by omega)), ih]
    have hp : pr (Rn q n ++ [(n, n + d)]) (Rn q n).length = (n, n + d) := by rw [pr_snoc, if_neg (by omega), if_pos rfl]
    unfold stepR
    rw [List.length_append, List.length_singleton, Nat.add_sub_cancel, hp, if_pos ⟨by omega, by simp only; omega⟩]
    simp
end Go.Proofs.Ytkljagffccommaa
