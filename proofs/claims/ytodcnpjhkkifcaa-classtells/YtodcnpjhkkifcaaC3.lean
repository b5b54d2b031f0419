/- Walks over the class package: OnesCount64, Len, Bytes, Range. -/
import Derived.Test.YtodcnpjhkkifcaaC2
import Derived.Maps.AppendAt
import Derived.Deep.AppendLies
import Derived.OwnWalk
namespace Go.Proofs.Ytodcnpjhkkifcaa
open Go.RowKit

theorem rep85 : rep 85 8 = 6148914691236517205 := by decide
theorem rep51 : rep 51 8 = 3689348814741910323 := by decide
theorem rep15 : rep 15 8 = 1085102592571150095 := by decide

theorem and_u64 (a m : Nat) (ha : a < 18446744073709551616) (hm : m < 18446744073709551616) : bits .and .u64 (a : Int) (m : Int) = ((a &&& m : Nat) : Int) := u64_and_nat a m ha hm

theorem s1 (X : Nat) (h : X < 18446744073709551616) : IntKind.u64.wrap (bits .and .u64 ((X : Int) / 2) 6148914691236517205 + bits .and .u64 (X : Int) 6148914691236517205) = ((t1 8 X : Nat) : Int) ∧ t1 8 X ≤ 12297829382473034410 := by
  have e : ((X : Int) / 2) = ((X / 2 : Nat) : Int) := by omega
  have a1 := and_u64 (X / 2) 6148914691236517205 (by omega) (by decide)
  have a2 := and_u64 X 6148914691236517205 h (by decide)
  have l1 : X / 2 &&& 6148914691236517205 ≤ 6148914691236517205 := Nat.and_le_right
  have l2 : X &&& 6148914691236517205 ≤ 6148914691236517205 := Nat.and_le_right
  have et : t1 8 X = (X / 2 &&& 6148914691236517205) + (X &&& 6148914691236517205) := by unfold t1; rw [rep85]
  rw [e, et]
  rw [show ((6148914691236517205 : Int)) = ((6148914691236517205 : Nat) : Int) from rfl, a1, a2, IntKind.wrap_u64]
  omega
theorem s2 (X : Nat) (h : X < 18446744073709551616) : IntKind.u64.wrap (bits .and .u64 ((X : Int) / 4) 3689348814741910323 + bits .and .u64 (X : Int) 3689348814741910323) = ((t2 8 X : Nat) : Int) ∧ t2 8 X ≤ 7378697629483820646 := by
  have e : ((X : Int) / 4) = ((X / 4 : Nat) : Int) := by omega
  have a1 := and_u64 (X / 4) 3689348814741910323 (by omega) (by decide)
  have a2 := and_u64 X 3689348814741910323 h (by decide)
  have l1 : X / 4 &&& 3689348814741910323 ≤ 3689348814741910323 := Nat.and_le_right
  have l2 : X &&& 3689348814741910323 ≤ 3689348814741910323 := Nat.and_le_right
  have et : t2 8 X = (X / 4 &&& 3689348814741910323) + (X &&& 3689348814741910323) := by unfold t2; rw [rep51]
  rw [e, et]
  rw [show ((3689348814741910323 : Int)) = ((3689348814741910323 : Nat) : Int) from rfl, a1, a2, IntKind.wrap_u64]
  omega
theorem s3 (X : Nat) (h : X ≤ 7378697629483820646) : bits .and .u64 (IntKind.u64.wrap ((X : Int) / 16 + (X : Int))) 1085102592571150095 = ((t3 8 X : Nat) : Int) := by
  have e : IntKind.u64.wrap ((X : Int) / 16 + (X : Int)) = ((X / 16 + X : Nat) : Int) := by rw [IntKind.wrap_u64]; omega
  have et : t3 8 X = (X / 16 + X) &&& 1085102592571150095 := by unfold t3; rw [rep15]
  rw [e, et]
  exact and_u64 (X / 16 + X) 1085102592571150095 (by omega) (by decide)

theorem wrap_step (y m : Nat) (h : y + y / m < 18446744073709551616) : IntKind.u64.wrap ((y : Int) + (y : Int) / (m : Int)) = ((y + y / m : Nat) : Int) := by
  rw [IntKind.wrap_u64, ← Int.natCast_ediv]
  generalize y / m = q at *
  omega
theorem wrap_last (z : Nat) (h : z < 9223372036854775808) : wrap64 (z : Int) % 128 = ((z % 128 : Nat) : Int) := by unfold wrap64; omega

theorem ones_math (X : Nat) (h : X < 18446744073709551616) (Y : Int) (hY : Y = (X : Int)) (a b c : Int)
    (ha : a = IntKind.u64.wrap (bits .and .u64 (Y / 2) 6148914691236517205 + bits .and .u64 Y 6148914691236517205))
    (hb : b = IntKind.u64.wrap (bits .and .u64 (a / 4) 3689348814741910323 + bits .and .u64 a 3689348814741910323))
    (hc : c = bits .and .u64 (IntKind.u64.wrap (b / 16 + b)) 1085102592571150095) (d e f : Int)
    (hd : d = IntKind.u64.wrap (c + c / 256)) (he : e = IntKind.u64.wrap (d + d / 65536)) (hf : f = IntKind.u64.wrap (e + e / 4294967296)) :
    bits .and .i64 (wrap64 f) 127 = ((popc X : Nat) : Int) := by
  subst hY
  obtain ⟨e1, l1⟩ := s1 X h
  rw [e1] at ha; subst ha
  obtain ⟨e2, l2⟩ := s2 (t1 8 X) (by omega)
  rw [e2] at hb; subst hb
  rw [s3 _ l2] at hc; subst hc
  have hp := pop_fold X
  generalize t3 8 (t2 8 (t1 8 X)) = y at *
  simp only [] at hp
  obtain ⟨p1, p2, p3, p4⟩ := hp
  have d1 : d = ((y + y / 256 : Nat) : Int) := by rw [hd]; exact wrap_step y 256 p1
  subst d1
  have d2 : e = ((y + y / 256 + (y + y / 256) / 65536 : Nat) : Int) := by rw [he]; exact wrap_step _ 65536 p2
  subst d2
  have d3 : f = ((y + y / 256 + (y + y / 256) / 65536 + (y + y / 256 + (y + y / 256) / 65536) / 4294967296 : Nat) : Int) := by rw [hf]; exact wrap_step _ 4294967296 (Nat.lt_trans p3 (by decide))
  subst d3
  rw [i64_and127, wrap_last _ p3, p4]

set_option maxHeartbeats 800000 in
theorem ones_any (x : BitVec 64) (w : World) : Calls Try.prog 31 #[.int .u64 (uv x)] w fun e w' => e = .returned (.int .i64 (popc x.toNat : Nat)) ∧ w = w' := by
  go_enter Try.func31, Try.ntmps31
  go_wp2
  go_ret
  refine ⟨ret_int ?_, rfl⟩
  exact ones_math x.toNat x.isLt (uv x) rfl _ _ _ rfl rfl rfl _ _ _ rfl rfl rfl


/-- how many bytes a class has -/
def cntK (q : Nat → BitVec 64) : Nat := (List.range 256).countP (kb q)
theorem word_cnt (q : Nat → BitVec 64) (j : Nat) : (List.range 64).countP (fun i => kb q (64 * j + i)) = popc (q j).toNat := by
  unfold popc
  apply List.countP_congr
  intro i hi
  have := List.mem_range.1 hi
  unfold kb
  rw [show (64 * j + i) / 64 = j by omega, show (64 * j + i) % 64 = i by omega]
  rfl
theorem cntK_sum (q : Nat → BitVec 64) : cntK q = popc (q 0).toNat + popc (q 1).toNat + popc (q 2).toNat + popc (q 3).toNat := by
  unfold cntK
  rw [show 256 = 192 + 64 from rfl, countP_add, show 192 = 128 + 64 from rfl, countP_add, show 128 = 64 + 64 from rfl, countP_add]
  rw [← word_cnt q 0, ← word_cnt q 1, ← word_cnt q 2, ← word_cnt q 3]
  simp
def sumK (q : Nat → BitVec 64) : Nat → Nat
  | 0 => 0
  | k + 1 => sumK q k + popc (q k).toNat
theorem sumK_le (q : Nat → BitVec 64) : ∀ k, sumK q k ≤ 64 * k
  | 0 => by simp [sumK]
  | k + 1 => by have := sumK_le q k; have := popc_le (q k).toNat; unfold sumK; omega
theorem sumK_four (q : Nat → BitVec 64) : sumK q 4 = cntK q := by rw [cntK_sum]; simp [sumK]
theorem cntK_le (q : Nat → BitVec 64) : cntK q ≤ 256 := by rw [← sumK_four]; exact sumK_le q 4

theorem idx0 (q : Nat → BitVec 64) (w : World) : (Instr.index 26 (.agg #[.int .u64 (uv (q 0)), .int .u64 (uv (q 1)), .int .u64 (uv (q 2)), .int .u64 (uv (q 3))]) (.int .i64 0)).run Try.prog w = .ok (.int .u64 (uv (q 0))) w := by kernel_rfl
theorem idx1 (q : Nat → BitVec 64) (w : World) : (Instr.index 26 (.agg #[.int .u64 (uv (q 0)), .int .u64 (uv (q 1)), .int .u64 (uv (q 2)), .int .u64 (uv (q 3))]) (.int .i64 1)).run Try.prog w = .ok (.int .u64 (uv (q 1))) w := by kernel_rfl
theorem idx2 (q : Nat → BitVec 64) (w : World) : (Instr.index 26 (.agg #[.int .u64 (uv (q 0)), .int .u64 (uv (q 1)), .int .u64 (uv (q 2)), .int .u64 (uv (q 3))]) (.int .i64 2)).run Try.prog w = .ok (.int .u64 (uv (q 2))) w := by kernel_rfl
theorem idx3 (q : Nat → BitVec 64) (w : World) : (Instr.index 26 (.agg #[.int .u64 (uv (q 0)), .int .u64 (uv (q 1)), .int .u64 (uv (q 2)), .int .u64 (uv (q 3))]) (.int .i64 3)).run Try.prog w = .ok (.int .u64 (uv (q 3))) w := by kernel_rfl
theorem idx_any (q : Nat → BitVec 64) (k : Nat) (hk : k < 4) (w : World) : (Instr.index 26 (.agg #[.int .u64 (uv (q 0)), .int .u64 (uv (q 1)), .int .u64 (uv (q 2)), .int .u64 (uv (q 3))]) (.int .i64 (k : Int))).run Try.prog w = .ok (.int .u64 (uv (q k))) w := by
  rcases (show k = 0 ∨ k = 1 ∨ k = 2 ∨ k = 3 by omega) with rfl | rfl | rfl | rfl
  · exact idx0 q w
  · exact idx1 q w
  · exact idx2 q w
  · exact idx3 q w

set_option maxHeartbeats 400000 in
theorem len_any (q : Nat → BitVec 64) (w : World) : Calls Try.prog 23 #[.agg (cw q)] w fun e w' => e = .returned (.int .i64 (cntK q : Nat)) ∧ Below w.heap.size w w' := by
  have hbl : Hid (Below w.heap.size w (w.alloc (.cells (cw q) 26))) := (Below.refl _ _).alloc (Nat.le_refl _) _
  unfold cw at hbl ⊢
  go_enter Try.func23, Try.ntmps23
  go_wp2_with fail
  generalize w.alloc (.cells #[.int .u64 (uv (q 0)), .int .u64 (uv (q 1)), .int .u64 (uv (q 2)), .int .u64 (uv (q 3))] 26) = w1 at hbl ⊢
  go_loop [3, 7] (fun n i => ∃ k m : Nat, k ≤ 4 ∧ i = .int .i64 k ∧ n = .int .i64 m ∧ m ≤ 64 * k ∧ m = sumK q k) (fun _ i => 4 - (intOf i).toNat)
  case atStart => exact ⟨0, 0, Nat.zero_le _, rfl, rfl, Nat.zero_le _, rfl⟩
  case round =>
    obtain ⟨k, m, hk, rfl, rfl, hm, hcm⟩ := hrel
    have HM := Lib.hid hcm; clear hcm
    by_cases hlt : k < 4
    · have hix : ∀ w', (Instr.index 26 (.agg #[.int .u64 (uv (q 0)), .int .u64 (uv (q 1)), .int .u64 (uv (q 2)), .int .u64 (uv (q 3))]) (.int .i64 (k : Int))).run Try.prog w' = .ok (.int .u64 (uv (q k))) w' := fun w' => idx_any q k hlt w'
      have hp := popc_le (q k).toNat
      have H1 := Lib.hid (ones_any (q k) w1)
      have HS : Hid (sumK q (k + 1) = sumK q k + popc (q k).toNat) := rfl
      generalize hpp : popc (q k).toNat = p at hp H1 HS
      clear hpp
      go_wp2_with fail
      refine H1.out.mono ?_
      rintro e w' ⟨rfl, rfl⟩
      go_wp2
      go_round
      case rel => exact ⟨k + 1, m + p, by omega, by go_num, by go_num, by omega, by rw [HS.out, HM.out]⟩
      case measure => simp [intOf]; omega
    · obtain rfl : k = 4 := by omega
      go_wp2
      go_ret
      exact ⟨ret_int (by rw [HM.out, sumK_four]), hbl.out⟩

theorem Try.info5 : (Try.prog.info? 5).map (fun i => (i.zero, i.size, i.bytes)) = some (some (.int .u8 0), 1, 1) := by kernel_rfl
/-- the bytes of a class below n -/
def byl (q : Nat → BitVec 64) (n : Nat) : List Nat := (List.range n).filter (kb q)
def yvals (l : List Nat) : List Value := l.map fun (i : Nat) => Value.int .u8 (i : Int)
theorem byl_skip (q : Nat → BitVec 64) (k : Nat) (h : kb q k = false) : byl q (k + 1) = byl q k := by
  unfold byl; rw [List.range_succ, List.filter_append]; simp [h]
theorem byl_take (q : Nat → BitVec 64) (k : Nat) (h : kb q k = true) : byl q (k + 1) = byl q k ++ [k] := by
  unfold byl; rw [List.range_succ, List.filter_append]; simp [h]
theorem byl_le (q : Nat → BitVec 64) (n : Nat) : (byl q n).length ≤ n := by
  have := List.length_filter_le (kb q) (List.range n)
  simpa [byl] using this
theorem byl_lt (q : Nat → BitVec 64) (n : Nat) (hn : n ≤ 256) (j : Nat) : bn (byl q n) j < 256 := by
  unfold bn
  rcases Nat.lt_or_ge j (byl q n).length with h | h
  · simp only [List.getD, List.getElem?_eq_getElem h, Option.getD_some]
    have hm : (byl q n)[j] ∈ byl q n := List.getElem_mem h
    unfold byl at hm
    have := List.mem_range.1 (List.mem_filter.1 hm).1
    exact Nat.lt_of_lt_of_le this hn
  · simp [List.getD, List.getElem?_eq_none h]
theorem yvals_snoc (l : List Nat) (i : Nat) : yvals l ++ [.int .u8 (i : Int)] = yvals (l ++ [i]) := by simp [yvals]

def GivesB (w : World) (l : List Nat) (e : Ending) (w' : World) : Prop :=
  ∃ A c, e = .returned (.slice A l.length c) ∧ Bts w' A l ∧ Below w.heap.size w w'
theorem givesB_owns {w w' : World} {v : Value} {l : List Nat} {n : Nat} (hl : ∀ j, bn l j < 256) (hn : n = l.length) (h : w'.ownsRow w.heap.size 5 1 v n (yvals l)) (hb : Below w.heap.size w w') : GivesB w l (.returned v) w' := by
  subst hn
  rcases h.2 with ⟨rfl, h0⟩ | ⟨g, cap, cur, rfl, hg, hh, hc, _, _, ht⟩
  · exact ⟨none, 0, by rw [h0], ⟨hl, fun h => by omega⟩, hb⟩
  · have hlt : g < w'.heap.size := (h.lt g rfl).2
    refine ⟨_, cap, rfl, ⟨hl, fun _ => ⟨g, 0, rfl, hlt, fun j hj => ?_⟩⟩, hb⟩
    rw [Nat.zero_add, h.cellAt j (by omega)]
    simp [yvals, bn, hj, List.getD]

/-- an append of one element onto a row of the call's own: the slice that comes has an address -/
theorem wpList_app1 {P : Program} {ops : Array Oper} {rest : List Oper} {o : Oper} {a : Act} {Q : Exit → Act → World → Prop} {w0 : World} (hgd : o.guard = none) (s x : Operand) (t : TypeId)
    (ho : o.op = .call { callee := .builtin .append, args := #[s, x], argTypes := #[t, t] })
    (base : Nat) (e : TypeId) (i : TypeInfo) (z : Value) (bytes : Nat) (ht : P.underlying t = some (.slice e)) (hi : P.info? e = some i) (hz : i.zero = some z)
    (hsize : i.size = 1) (hby : i.bytes = bytes) (hzs : z.cells.size = 1)
    (v : Value) (n : Nat) (xs : List Value) (hs : a.eval s = v) (hown : w0.ownsRow base e 1 v n xs)
    (u : Value) (hx : a.eval x = .slice (some ⟨w0.heap.size, 0, none⟩) 1 1) (h1 : u.oneCell' = true)
    (h63 : n + 1 ≤ maxLen) (hbytes : (n + 1) * bytes ≤ 140737488355328) (wS : World) (hB : Below base wS w0) (hbase : base ≤ w0.heap.size)
    (h : ∀ g cap w', w'.ownsRow base e 1 (.slice (some ⟨g, 0, none⟩) (n + 1) cap) (n + 1) (xs ++ [u]) → Below base wS w' → wpList P ops Q rest (a.put o.dst (.slice (some ⟨g, 0, none⟩) (n + 1) cap)) w') :
    wpList P ops Q (o :: rest) a (w0.alloc (.cells #[u] e)) := by
  refine wpList_append_own _ hgd s x t ho base e i z 1 bytes ht hi hz hsize hby hzs (by omega) v n xs hs (hown.alloc _) ⟨w0.heap.size, 0, none⟩ 1 1 [u] hx rfl (cell_one_new _ _ _) ?_ h63 hbytes ?_ ?_
  · intro y hy; simp at hy; subst hy; exact h1
  · simp; omega
  · intro v' w' hown' hgrow _
    obtain ⟨g, cap, hv, _, _⟩ := hown'.form (by omega)
    rw [hv] at hown' ⊢
    refine h g cap w' hown' ((hB.alloc hbase _).grown hgrow (by simp; omega) fun k hk => ?_)
    exact (hown.lt k hk).1

theorem owns_below {w w' : World} {base n : Nat} {e : TypeId} {v : Value} {xs : List Value} (h : w.ownsRow base e 1 v n xs) (hb : Below w.heap.size w w') : w'.ownsRow base e 1 v n xs :=
  h.kept (row := none) ⟨hb.os, hb.tape, hb.output, hb.size, fun j hj _ => hb.block j hj⟩ (by
    cases hv : v.ownBlock
    · exact Or.inl rfl
    · exact Or.inr (by simp))
theorem owns_mono {w : World} {base base' n : Nat} {e : TypeId} {v : Value} {xs : List Value} (h : w.ownsRow base e 1 v n xs) (hb : base' ≤ base) : w.ownsRow base' e 1 v n xs := by
  refine ⟨h.1, ?_⟩
  rcases h.2 with h0 | ⟨g, cap, cur, h1, h2, h3⟩
  · exact Or.inl h0
  · exact Or.inr ⟨g, cap, cur, h1, Nat.le_trans hb h2, h3⟩

set_option maxRecDepth 100000 in
set_option maxHeartbeats 1000000 in
theorem bytes_any (q : Nat → BitVec 64) (w : World) : Calls Try.prog 20 #[.agg (cw q)] w (GivesB w (byl q 256)) := by
  obtain ⟨i0, hi0, hz0, hz1, hz2⟩ := info_parts Try.info5
  have h1 := CB.new w q
  have hbl : Below w.heap.size w (w.alloc (.cells (cw q) 26)) := (Below.refl _ _).alloc (Nat.le_refl _) _
  have hsz : (w.alloc (.cells (cw q) 26)).heap.size = w.heap.size + 1 := by simp
  have HL := Lib.hid (len_any q (w.alloc (.cells (cw q) 26)))
  have hcl := cntK_le q
  generalize cntK q = m at HL hcl
  have HC := Lib.hid h1; have HB := Lib.hid hbl; have HZ := Lib.hid hsz
  clear h1 hbl hsz
  unfold cw at HC HB HL HZ ⊢
  go_enter Try.func20, Try.ntmps20
  go_wp2_with fail
  generalize w.alloc (.cells #[.int .u64 (uv (q 0)), .int .u64 (uv (q 1)), .int .u64 (uv (q 2)), .int .u64 (uv (q 3))] 26) = wA at HC HB HL HZ ⊢
  refine HL.out.mono ?_
  rintro e w1 ⟨rfl, hb1⟩
  have HA1 : Hid (Below (w.heap.size + 1) wA w1) := hb1.mono (by rw [HZ.out]; exact Nat.le_refl _)
  have hs1 : w.heap.size + 1 ≤ w1.heap.size := by have := hb1.size; rw [HZ.out] at this; exact this
  clear hb1 HL
  go_wp2_with (at_make; refine wpList_make_own _ rfl _ _ 22 rfl (w.heap.size + 1) 5 i0 (.int .u8 0) 1 Try.underlying22 hi0 hz0 hz1 .i64 .i64 (m : Int) m rfl rfl rfl (by rw [hz2]; omega) (by unfold maxLen; omega) hs1 ?_)
  intro w2 hown2 hgrow2
  have HO2 := Lib.hid hown2
  have HA2 : Hid (Below (w.heap.size + 1) wA w2) := HA1.out.grown hgrow2 hs1 (fun k hk => by cases hk)
  clear hown2 hgrow2 HA1 hs1
  go_wp2_with fail
  go_loopw [3, 8] (fun v i wr => ∃ (k cap : Nat) (A : Option Addr), k ≤ 256 ∧ i = .int .i64 k ∧ v = .slice A (byl q k).length cap ∧ wr.ownsRow (w.heap.size + 1) 5 1 (.slice A (byl q k).length cap) (byl q k).length (yvals (byl q k)) ∧ Below (w.heap.size + 1) wA wr) (fun _ i _ => 256 - (intOf i).toNat)
  case atStart => exact ⟨0, m, _, Nat.zero_le _, rfl, rfl, HO2.out, HA2.out⟩
  case round =>
    obtain ⟨k, cap, A, hk, rfl, rfl, hown, hA⟩ := hrel
    have HO := Lib.hid hown; have HA := Lib.hid hA
    clear HO2 HA2
    have hpl := byl_le q k
    have hbs : w.heap.size + 1 ≤ wr.heap.size := by have := hA.size; rw [HZ.out] at this; exact this
    by_cases hlt : k < 256
    · have hc : CB wr w.heap.size q := HC.out.below hA (by omega)
      have a0 := hc.cell 0 (by omega); have a1 := hc.cell 1 (by omega); have a2 := hc.cell 2 (by omega); have a3 := hc.cell 3 (by omega)
      have HH := Lib.hid (has_any q k wr hlt)
      unfold cw at HH
      have hkw : IntKind.u8.wrap (k : Int) = (k : Int) := by rw [IntKind.wrap_u8']; omega
      clear hown hc hA
      cases hbk : kb q k with
      | false =>
        have HP : Hid (byl q (k + 1) = byl q k) := byl_skip q k hbk
        rw [hbk] at HH
        clear hbk
        go_wp2_with fail
        refine HH.out.mono ?_
        rintro e w3 ⟨rfl, hb3⟩
        have HA3 := Lib.hid (HA.out.trans (hb3.mono hbs))
        have HO3 := Lib.hid (owns_below HO.out hb3)
        clear hb3 HH HO HA
        go_wp2
        go_roundw
        case rel => exact ⟨k + 1, cap, A, by omega, by go_num, by rw [HP.out], by rw [HP.out]; exact HO3.out, HA3.out⟩
        case measure => simp [intOf]; omega
      | true =>
        have HP : Hid (byl q (k + 1) = byl q k ++ [k]) := byl_take q k hbk
        rw [hbk] at HH
        clear hbk
        generalize byl q k = l at *
        go_wp2_with fail
        refine HH.out.mono ?_
        rintro e w3 ⟨rfl, hb3⟩
        have HA3 := Lib.hid (HA.out.trans (hb3.mono hbs))
        have HO3 := Lib.hid (owns_below HO.out hb3)
        have hbs3 : w.heap.size + 1 ≤ w3.heap.size := Nat.le_trans hbs hb3.size
        clear hb3 HH HO HA
        go_wp2_with (at_builtin; refine wpList_app1 rfl (.tmp 15) (.tmp 18) 22 rfl (w.heap.size + 1) 5 i0 (.int .u8 0) 1 Try.underlying22 hi0 hz0 hz1 hz2 rfl _ _ _ rfl HO3.out (.int .u8 (k : Int)) rfl rfl (by unfold maxLen; omega) (by omega) wA HA3.out hbs3 ?_)
        intro g4 cap4 w4 hown4 hb4
        have HO4 := Lib.hid hown4; have HA4 := Lib.hid hb4
        clear hown4 hb4 HO3 HA3
        go_wp2
        go_roundw
        case rel =>
          refine ⟨k + 1, cap4, some ⟨g4, 0, none⟩, by omega, by go_num, by rw [HP.out]; simp, ?_, HA4.out⟩
          have := HO4.out
          rw [yvals_snoc] at this
          rw [HP.out]
          simpa using this
        case measure => simp [intOf]; omega
    · obtain rfl : k = 256 := by omega
      clear hown hA
      go_wp2
      go_ret
      exact givesB_owns (byl_lt q 256 (by omega)) rfl (owns_mono HO.out (by omega)) (HB.out.trans (HA.out.mono (by omega)))
end Go.Proofs.Ytodcnpjhkkifcaa
