/- What tells a kind; the first of a kind in a list; a term around kids; a repetition made simple. Numbers compared, and rows of four. Terms compared: an order of terms. gather: its walk. A term around kids; a repetition made simple. -/
import Derived.Test.YtkljagffccommaaG37
import Derived.Deep.DeepCutAuto
import Derived.Test.YtkljagffccommaaG29
import Derived.Test.YtkljagffccommaaT8
namespace Go.Proofs.Ytkljagffccommaa
open Go.RowKit

set_option maxHeartbeats 1000000 in
theorem isop_any (x : Int) (w : World) : Calls Try.prog 67 #[.int .i64 x] w fun e w' => e = .returned (.func (.func 88) #[] #[.pointer (some ⟨w.heap.size, 0, none⟩)]) ∧ w'.cell? ⟨w.heap.size, 0, none⟩ = some (.int .i64 x) ∧ w.heap.size < w'.heap.size ∧ Below w.heap.size w w' := by
  have hmf : ∀ (fn : Fn) (first cap : Array Value) (w : World), (Instr.makeFunc fn first cap).run Try.prog w = .ok (.func fn first cap) w := fun _ _ _ _ => rfl
  have i1 := heap_alloc_new w (.cells #[.int .i64 x] 3)
  have c1 : (w.alloc (.cells #[.int .i64 x] 3)).cell? ⟨w.heap.size, 0, none⟩ = some (.int .i64 x) := by rw [cell_of_row _ _ 0 _ _ _ i1]; rfl
  have C1 := Lib.hid c1
  clear i1 c1
  go_enter Try.func67, Try.ntmps67
  go_wp2_with fail
  go_ret
  exact ⟨rfl, C1.out, by simp, below_new _ _⟩

set_option maxHeartbeats 1000000 in
theorem op_any (x : Int) (p : Nat) (d : TD) (w : World) (hp : w.cell? ⟨p, 0, none⟩ = some (.int .i64 x)) (hlt : p < w.heap.size) :
    Calls Try.prog 88 #[d.val, .pointer (some ⟨p, 0, none⟩)] w fun e w' => e = .returned (.bool (d.op == x)) ∧ Below w.heap.size w w' := by
  have T1 := Lib.hid (TB.new w d)
  have B1 : Hid (Below w.heap.size w (w.alloc (.cells d.cells 29))) := below_new _ _
  have hp2 := (B1.out.cell (p := ⟨p, 0, none⟩) hlt).trans hp
  obtain ⟨⟨x0, x1, x2, x3, x4, x5, x6, x7⟩, _⟩ := T1.out.all
  unfold TD.cells TD.val at *
  go_enter Try.func88, Try.ntmps88
  go_wp2_with fail
  go_ret
  exact ⟨rfl, B1.out⟩

/-- the first of a kind -/
def Idx (x : Int) (ds : List TD) (r : Int) : Prop :=
  (∃ i : Nat, r = (i : Nat) ∧ (∃ d, ds[i]? = some d ∧ d.op = x) ∧ ∀ j, j < i → ∀ d, ds[j]? = some d → d.op ≠ x) ∨ (r = -1 ∧ ∀ (j : Nat) (d : TD), ds[j]? = some d → d.op ≠ x)

set_option maxRecDepth 100000 in
set_option maxHeartbeats 4000000 in
theorem index_any (x : Int) (p : Nat) (A : Option Addr) (c : Nat) (ds : List TD) (w : World) (hr : RowAt w A ds) (h5 : ds.length ≤ 9223372036854775806)
    (hp : w.cell? ⟨p, 0, none⟩ = some (.int .i64 x)) (hlt : p < w.heap.size) :
    Calls Try.prog 87 #[.slice A ds.length c, .func (.func 88) #[] #[.pointer (some ⟨p, 0, none⟩)]] w fun e w' => ∃ r, e = .returned (.int .i64 r) ∧ Idx x ds r ∧ Below w.heap.size w w' := by
  have hn : ∀ args w, (callFunc 88 args).run Try.prog w = .ok (.enter 88 args) w := fun args W => by kernel_rfl
  obtain ⟨m, hm⟩ : ∃ m, ds.length = m := ⟨_, rfl⟩
  rw [hm] at h5 ⊢
  have HR := Lib.hid hr; have HM := Lib.hid hm; have HP := Lib.hid hp; have HL := Lib.hid hlt
  clear hr hm hp hlt
  have hb0 : Hid (Below w.heap.size w w) := Below.refl _ _
  go_enter Try.func87, Try.ntmps87
  go_wp2_with fail
  go_loopw [8] (fun v wr => ∃ i : Nat, i ≤ m ∧ v = .int .i64 (i : Nat) ∧ Hid (∀ j, j < i → ∀ d, ds[j]? = some d → d.op ≠ x) ∧ Hid (Below w.heap.size w wr)) (fun v _ => m - (intOf v).toNat)
  case atStart => exact ⟨0, Nat.zero_le _, rfl, fun j hj => by omega, hb0⟩
  case round =>
    obtain ⟨i, hi1, rfl, hN, hW⟩ := hrel
    clear hb0
    by_cases hlt : i < m
    · have qi : (i : Int) < (m : Int) := by omega
      have hi4 : i < ds.length := by have := HM.out; omega
      obtain ⟨kb1, off1, rfl, hb1, hc1⟩ := HR.out (by omega)
      have hdt := List.getElem?_eq_getElem hi4
      obtain ⟨a0, a1, a2, a3, a4, a5, a6, a7⟩ := kid_cells hW.out hb1 hc1 hdt
      have D1 := Lib.hid (op_any x p ds[i] wr ((hW.out.cell (p := ⟨p, 0, none⟩) HL.out).trans HP.out) (Nat.lt_of_lt_of_le HL.out hW.out.size))
      have HD := Lib.hid hdt
      have q6 : IntKind.i64.wrap ((i : Int) + 1) = ((i + 1 : Nat) : Int) := by rw [IntWalk.i64_in _ (by omega)]; omega
      generalize ds[i] = dt at *
      clear hc1 hi4 hb1 hdt
      unfold TD.val at D1
      go_wp2_with fail
      refine D1.out.mono ?_
      rintro e w5 ⟨rfl, hb5⟩
      have B5 := Lib.hid (hW.out.trans (hb5.mono hW.out.size))
      clear D1 hb5 a0 a1 a2 a3 a4 a5 a6 a7
      by_cases hx : dt.op = x
      · have ex : (dt.op == x) = true := by rw [hx]; simp
        have HX := Lib.hid hx
        clear hx
        go_wp2
        go_ret
        exact ⟨_, rfl, .inl ⟨i, rfl, ⟨dt, HD.out, HX.out⟩, hN.out⟩, B5.out⟩
      · have ex : (dt.op == x) = false := by rw [beq_eq_false_iff_ne]; exact hx
        have HX := Lib.hid hx
        clear hx
        go_wp2_with fail
        go_roundw
        case rel =>
          refine ⟨i + 1, by omega, by simp, fun j hj d hd => ?_, B5⟩
          rcases Nat.lt_or_ge j i with h | h
          · exact hN.out j h d hd
          · obtain rfl : j = i := by omega
            rw [HD.out] at hd; injection hd with hd; subst hd; exact HX.out
        case measure => simp [intOf]; omega
    · have qi : ¬ (i : Int) < (m : Int) := by omega
      have hin : i = m := by omega
      have HN : Hid (∀ (j : Nat) (d : TD), ds[j]? = some d → d.op ≠ x) := fun j d hd => hN.out j (by have := (List.getElem?_eq_some_iff.1 hd).1; have := HM.out; omega) d hd
      clear hin hN
      go_wp2
      go_ret
      exact ⟨_, rfl, .inr ⟨rfl, HN.out⟩, hW.out⟩

set_option maxRecDepth 100000 in
set_option maxHeartbeats 4000000 in
theorem contains_any (x : Int) (p : Nat) (A : Option Addr) (c : Nat) (ds : List TD) (w : World) (hr : RowAt w A ds) (h5 : ds.length ≤ 9223372036854775806)
    (hp : w.cell? ⟨p, 0, none⟩ = some (.int .i64 x)) (hlt : p < w.heap.size) :
    Calls Try.prog 66 #[.slice A ds.length c, .func (.func 88) #[] #[.pointer (some ⟨p, 0, none⟩)]] w fun e w' => e = .returned (.bool (ds.any fun d => d.op == x)) ∧ Below w.heap.size w w' := by
  have D1 := Lib.hid (index_any x p A c ds w hr h5 hp hlt)
  generalize ds.length = m at *
  clear hr hp hlt h5
  go_enter Try.func66, Try.ntmps66
  go_wp2_with fail
  refine D1.out.mono ?_
  rintro e w5 ⟨r, rfl, hi, hb⟩
  have hv : decide (0 ≤ r) = ds.any fun d => d.op == x := by
    rcases hi with ⟨i, rfl, ⟨d, hd, hx⟩, _⟩ | ⟨rfl, hn⟩
    · rw [decide_eq_true (by omega)]
      symm
      rw [List.any_eq_true]
      exact ⟨d, List.mem_of_getElem? hd, by rw [hx]; simp⟩
    · rw [decide_eq_false (by omega)]
      symm
      rw [List.any_eq_false]
      intro d hd
      obtain ⟨j, hj⟩ := List.getElem?_of_mem hd
      have := hn j d hj
      simpa using this
  have HV := Lib.hid hv; have HB := Lib.hid hb
  clear D1 hv hi hb
  go_wp2
  go_ret
  exact ⟨show Ending.returned (Value.bool (decide (0 ≤ r))) = _ by rw [HV.out], HB.out⟩
end Go.Proofs.Ytkljagffccommaa
namespace Go.Proofs.Ytkljagffccommaa
open Go.RowKit

theorem isnan_i (x : Int) (w : World) : Calls Try.prog 113 #[.int .i64 x] w fun e w' => e = .returned (.bool false) ∧ w' = w := by
  have h : (x != x) = false := by simp
  go_enter Try.func113, Try.ntmps113
  go_wp2
  go_ret
  exact ⟨rfl, rfl⟩
theorem isnan_w (x : Int) (w : World) : Calls Try.prog 121 #[.int .u64 x] w fun e w' => e = .returned (.bool false) ∧ w' = w := by
  have h : (x != x) = false := by simp
  go_enter Try.func121, Try.ntmps121
  go_wp2
  go_ret
  exact ⟨rfl, rfl⟩

set_option maxHeartbeats 2000000 in
theorem cmp_int (x y : Int) (w : World) : Calls Try.prog 106 #[.int .i64 x, .int .i64 y] w fun e w' => e = .returned (.int .i64 (cmpI x y)) ∧ w' = w := by
  have D1 := Lib.hid (isnan_i x w)
  have D2 := Lib.hid (isnan_i y w)
  obtain ⟨r, hr⟩ : ∃ r, cmpI x y = r := ⟨_, rfl⟩
  rw [hr]
  unfold cmpI at hr
  by_cases h1 : x < y
  · rw [if_pos h1] at hr; subst hr
    go_enter Try.func106, Try.ntmps106
    go_wp2_with fail
    refine D1.out.mono ?_
    rintro e w1 ⟨rfl, rfl⟩
    go_wp2_with fail
    refine D2.out.mono ?_
    rintro e w2 ⟨rfl, rfl⟩
    go_wp2
    go_ret
    exact ⟨rfl, rfl⟩
  · rw [if_neg h1] at hr
    by_cases h2 : y < x
    · rw [if_pos h2] at hr; subst hr
      go_enter Try.func106, Try.ntmps106
      go_wp2_with fail
      refine D1.out.mono ?_
      rintro e w1 ⟨rfl, rfl⟩
      go_wp2_with fail
      refine D2.out.mono ?_
      rintro e w2 ⟨rfl, rfl⟩
      go_wp2
      go_ret
      exact ⟨rfl, rfl⟩
    · rw [if_neg h2] at hr; subst hr
      go_enter Try.func106, Try.ntmps106
      go_wp2_with fail
      refine D1.out.mono ?_
      rintro e w1 ⟨rfl, rfl⟩
      go_wp2_with fail
      refine D2.out.mono ?_
      rintro e w2 ⟨rfl, rfl⟩
      go_wp2
      go_ret
      exact ⟨rfl, rfl⟩
set_option maxHeartbeats 2000000 in
theorem cmp_word (x y : Int) (w : World) : Calls Try.prog 112 #[.int .u64 x, .int .u64 y] w fun e w' => e = .returned (.int .i64 (cmpI x y)) ∧ w' = w := by
  have D1 := Lib.hid (isnan_w x w)
  have D2 := Lib.hid (isnan_w y w)
  obtain ⟨r, hr⟩ : ∃ r, cmpI x y = r := ⟨_, rfl⟩
  rw [hr]
  unfold cmpI at hr
  by_cases h1 : x < y
  · rw [if_pos h1] at hr; subst hr
    go_enter Try.func112, Try.ntmps112
    go_wp2_with fail
    refine D1.out.mono ?_
    rintro e w1 ⟨rfl, rfl⟩
    go_wp2_with fail
    refine D2.out.mono ?_
    rintro e w2 ⟨rfl, rfl⟩
    go_wp2
    go_ret
    exact ⟨rfl, rfl⟩
  · rw [if_neg h1] at hr
    by_cases h2 : y < x
    · rw [if_pos h2] at hr; subst hr
      go_enter Try.func112, Try.ntmps112
      go_wp2_with fail
      refine D1.out.mono ?_
      rintro e w1 ⟨rfl, rfl⟩
      go_wp2_with fail
      refine D2.out.mono ?_
      rintro e w2 ⟨rfl, rfl⟩
      go_wp2
      go_ret
      exact ⟨rfl, rfl⟩
    · rw [if_neg h2] at hr; subst hr
      go_enter Try.func112, Try.ntmps112
      go_wp2_with fail
      refine D1.out.mono ?_
      rintro e w1 ⟨rfl, rfl⟩
      go_wp2_with fail
      refine D2.out.mono ?_
      rintro e w2 ⟨rfl, rfl⟩
      go_wp2
      go_ret
      exact ⟨rfl, rfl⟩

/-- the first of numbers that isn't 0 -/
def orL : List Int → Int
  | [] => 0
  | a :: r => orC a (orL r)
set_option maxHeartbeats 2000000 in
theorem orL_any (g : Nat) (xs : List Int) (w : World) (hl : xs.length ≤ 1000) (hc : ∀ (j : Nat) (x : Int), xs[j]? = some x → w.cell? ⟨g, j, none⟩ = some (.int .i64 x)) :
    Calls Try.prog 105 #[.slice (some ⟨g, 0, none⟩) xs.length xs.length] w fun e w' => e = .returned (.int .i64 (orL xs)) ∧ w' = w := by
  obtain ⟨n, hn⟩ : ∃ n, xs.length = n := ⟨_, rfl⟩
  rw [hn] at hl ⊢
  have HC := Lib.hid hc; have HN := Lib.hid hn
  clear hc hn
  go_enter Try.func105, Try.ntmps105
  go_wp2_with fail
  go_loopw [8] (fun v wr => ∃ i : Nat, i ≤ n ∧ v = .int .i64 (i : Nat) ∧ Hid (orL (xs.drop i) = orL xs) ∧ wr = w) (fun v _ => n - (intOf v).toNat)
  case atStart => exact ⟨0, Nat.zero_le _, rfl, by show orL (xs.drop 0) = _; rw [List.drop_zero], rfl⟩
  case round =>
    obtain ⟨i, hi, rfl, hS, rfl⟩ := hrel
    by_cases hlt : i < n
    · have qi : (i : Int) < (n : Int) := by omega
      have hi2 : i < xs.length := by have := HN.out; omega
      have c0 := HC.out i _ (List.getElem?_eq_getElem hi2)
      have hS2 : orL xs = orC xs[i] (orL (xs.drop (i + 1))) := by rw [← hS.out, List.drop_eq_getElem_cons hi2, orL]
      have HS2 := Lib.hid hS2
      generalize xs[i] = x at *
      have q6 : IntKind.i64.wrap ((i : Int) + 1) = ((i + 1 : Nat) : Int) := by rw [IntWalk.i64_in _ (by omega)]; omega
      clear hS hS2
      by_cases hx : x = 0
      · subst hx
        have S1 : Hid (orL (xs.drop (i + 1)) = orL xs) := by show _ = _; rw [HS2.out]; rfl
        clear HS2
        go_wp2_with fail
        go_roundw
        case rel => exact ⟨i + 1, by omega, by simp, S1, trivial⟩
        case measure => simp [intOf]; omega
      · have ex : (x != 0) = true := by simpa using hx
        have S1 : Hid (orL xs = x) := by show _ = _; rw [HS2.out]; unfold orC; rw [if_neg hx]
        have ex2 : (x == 0) = false := by simpa using hx
        clear HS2 hx
        go_wp2_with fail
        go_ret
        exact ⟨by rw [S1.out]; rfl, rfl⟩
    · have qi : ¬ (i : Int) < (n : Int) := by omega
      have S1 : Hid (orL xs = 0) := by show _ = _; rw [← hS.out, List.drop_eq_nil_of_le (by have := HN.out; omega)]; rfl
      clear hS
      go_wp2
      go_ret
      exact ⟨by rw [S1.out]; rfl, rfl⟩

set_option maxHeartbeats 4000000 in
theorem words_any (n b o b' o' : Nat) (xs ys : List Int) (w : World) (hn : n ≤ 1000) (lx : xs.length = n) (ly : ys.length = n)
    (hx : ∀ (j : Nat) (x : Int), xs[j]? = some x → w.cell? ⟨b, o + j, none⟩ = some (.int .u64 x)) (hy : ∀ (j : Nat) (x : Int), ys[j]? = some x → w.cell? ⟨b', o' + j, none⟩ = some (.int .u64 x)) :
    Calls Try.prog 104 #[.slice (some ⟨b, o, none⟩) n n, .slice (some ⟨b', o', none⟩) n n] w fun e w' => e = .returned (.int .i64 (lexC xs ys)) ∧ w' = w := by
  have HX := Lib.hid hx; have HY := Lib.hid hy; have LX := Lib.hid lx; have LY := Lib.hid ly
  clear hx hy lx ly
  go_enter Try.func104, Try.ntmps104
  go_wp2_with fail
  go_loopw [11] (fun v wr => ∃ i : Nat, i ≤ n ∧ v = .int .i64 (i : Nat) ∧ Hid (lexC (xs.drop i) (ys.drop i) = lexC xs ys) ∧ wr = w) (fun v _ => n - (intOf v).toNat)
  case atStart => exact ⟨0, Nat.zero_le _, rfl, by show lexC (xs.drop 0) (ys.drop 0) = _; rw [List.drop_zero, List.drop_zero], rfl⟩
  case round =>
    obtain ⟨i, hi, rfl, hS, rfl⟩ := hrel
    by_cases hlt : i < n
    · have qi : (i : Int) < (n : Int) := by omega
      have qg : ¬ (n : Int) ≤ (i : Int) := by omega
      have hi2 : i < xs.length := by have := LX.out; omega
      have hi3 : i < ys.length := by have := LY.out; omega
      have c0 := HX.out i _ (List.getElem?_eq_getElem hi2)
      have c1 := HY.out i _ (List.getElem?_eq_getElem hi3)
      have hS2 : lexC xs ys = orC (cmpI xs[i] ys[i]) (lexC (xs.drop (i + 1)) (ys.drop (i + 1))) := by rw [← hS.out, List.drop_eq_getElem_cons hi2, List.drop_eq_getElem_cons hi3, lexC]
      have HS2 := Lib.hid hS2
      generalize xs[i] = x at *
      generalize ys[i] = y at *
      have D1 := Lib.hid (cmp_word x y wr)
      have q6 : IntKind.i64.wrap ((i : Int) + 1) = ((i + 1 : Nat) : Int) := by rw [IntWalk.i64_in _ (by omega)]; omega
      clear hS hS2
      generalize cmpI x y = r at *
      by_cases hx : r = 0
      · subst hx
        have S1 : Hid (lexC (xs.drop (i + 1)) (ys.drop (i + 1)) = lexC xs ys) := by show _ = _; rw [HS2.out]; rfl
        clear HS2
        go_wp2_with fail
        refine D1.out.mono ?_
        rintro e w2 ⟨rfl, rfl⟩
        go_wp2_with fail
        go_roundw
        case rel => exact ⟨i + 1, by omega, by simp, S1, trivial⟩
        case measure => simp [intOf]; omega
      · have ex : (r != 0) = true := by simpa using hx
        have S1 : Hid (lexC xs ys = r) := by show _ = _; rw [HS2.out]; unfold orC; rw [if_neg hx]
        have ex2 : (r == 0) = false := by simpa using hx
        clear HS2 hx
        go_wp2_with fail
        refine D1.out.mono ?_
        rintro e w2 ⟨rfl, rfl⟩
        go_wp2_with fail
        go_ret
        exact ⟨by rw [S1.out]; rfl, rfl⟩
    · have qi : ¬ (i : Int) < (n : Int) := by omega
      have S1 : Hid (lexC xs ys = 0) := by show _ = _; rw [← hS.out, List.drop_eq_nil_of_le (by have := LX.out; omega), List.drop_eq_nil_of_le (by have := LY.out; omega)]; rfl
      clear hS
      go_wp2
      go_ret
      exact ⟨by rw [S1.out]; rfl, rfl⟩
end Go.Proofs.Ytkljagffccommaa
namespace Go.Proofs.Ytkljagffccommaa
open Go.RowKit

theorem uv_wd {f : Nat → Bool} {q : Nat → BitVec 64} (h : IsK f q) (j : Nat) (hj : j < 4) : uv (q j) = (wd f j 64 : Int) := by
  unfold uv
  congr 1
  apply Nat.eq_of_testBit_eq
  intro i
  rw [wd_bit]
  by_cases hi : i < 64
  · rw [decide_eq_true hi, Bool.true_and, ← h (64 * j + i) (by omega)]
    unfold kb
    rw [show (64 * j + i) / 64 = j by omega, show (64 * j + i) % 64 = i by omega]
    rfl
  · rw [decide_eq_false hi, Bool.false_and]
    exact Nat.testBit_lt_two_pow (Nat.lt_of_lt_of_le (q j).isLt (Nat.pow_le_pow_right (by omega) (by omega)))
theorem setK_uv {f : Nat → Bool} {q : Nat → BitVec 64} (h : IsK f q) : setK f = [uv (q 0), uv (q 1), uv (q 2), uv (q 3)] := by
  unfold setK
  rw [uv_wd h 0 (by omega), uv_wd h 1 (by omega), uv_wd h 2 (by omega), uv_wd h 3 (by omega)]

set_option maxRecDepth 100000 in
set_option maxHeartbeats 8000000 in
theorem comparef_any (A A' : Option Addr) (c c' : Nat) (ks us : List Tm) (ds es : List TD) (w : World) (hl : ds.length = ks.length) (hl' : es.length = us.length) (h5 : us.length = ks.length) (hbig : ks.length ≤ 9223372036854775807)
    (hk : ∀ (i : Nat) (t : Tm) (d : TD), ks[i]? = some t → ds[i]? = some d → TR w t d) (hk' : ∀ (i : Nat) (t : Tm) (d : TD), us[i]? = some t → es[i]? = some d → TR w t d) (hr : RowAt w A ds) (hr' : RowAt w A' es)
    (ih : ∀ k ∈ ks, ∀ (u : Tm) (d e : TD) (W : World), TR W k d → TR W u e → Calls Try.prog 91 #[d.val, e.val] W (Tells W (.int .i64 (cmpT k u)))) :
    Calls Try.prog 107 #[.slice A ks.length c, .slice A' us.length c', .func (.func 91) #[] #[]] w (Tells w (.int .i64 (cmpL ks us))) := by
  have hn : ∀ args w, (callFunc 91 args).run Try.prog w = .ok (.enter 91 args) w := fun args W => by kernel_rfl
  obtain ⟨n, hnn⟩ : ∃ n, ks.length = n := ⟨_, rfl⟩
  have hnn' : us.length = n := by omega
  rw [hnn] at hbig ⊢
  rw [hnn']
  have IH := Lib.hid ih; have HK := Lib.hid hk; have HK' := Lib.hid hk'; have HR := Lib.hid hr; have HR' := Lib.hid hr'
  have HL := Lib.hid hl; have HL' := Lib.hid hl'; have HN := Lib.hid hnn; have HN' := Lib.hid hnn'
  have hb0 : Hid (Below w.heap.size w w) := Below.refl _ _
  clear ih hk hk' hr hr' hl hl' h5 hnn hnn'
  go_enter Try.func107, Try.ntmps107
  go_wp2_with fail
  go_loopw [13] (fun v wr => ∃ i : Nat, i ≤ n ∧ v = .int .i64 (i : Nat) ∧ Hid (cmpL (ks.drop i) (us.drop i) = cmpL ks us) ∧ Hid (Below w.heap.size w wr)) (fun v _ => n - (intOf v).toNat)
  case atStart => exact ⟨0, Nat.zero_le _, rfl, by show cmpL (ks.drop 0) (us.drop 0) = _; rw [List.drop_zero, List.drop_zero], hb0⟩
  case round =>
    obtain ⟨i, hi1, rfl, hS, hW⟩ := hrel
    clear hb0
    by_cases hlt : i < n
    · have qi : (i : Int) < (n : Int) := by omega
      have qg : ¬ (n : Int) ≤ (i : Int) := by omega
      have hi2 : i < ks.length := by have := HN.out; omega
      have hi3 : i < us.length := by have := HN'.out; omega
      have hi4 : i < ds.length := by have := HL.out; omega
      have hi5 : i < es.length := by have := HL'.out; omega
      obtain ⟨kb1, off1, rfl, hb1, hc1⟩ := HR.out (by omega)
      obtain ⟨kb2, off2, rfl, hb2, hc2⟩ := HR'.out (by omega)
      have nb1 := below_new wr (.cells (ds[i]).cells 29)
      have wb1 := hW.out.trans (nb1.mono hW.out.size)
      have nb2' := nb2 wr (.cells (ds[i]).cells 29) (.cells (es[i]).cells 29)
      have wb2 := hW.out.trans (nb2'.mono hW.out.size)
      obtain ⟨a0, a1, a2, a3, a4, a5, a6, a7⟩ := kid_cells hW.out hb1 hc1 (List.getElem?_eq_getElem hi4)
      obtain ⟨e0, e1, e2, e3, e4, e5, e6, e7⟩ := kid_cells wb1 hb2 hc2 (List.getElem?_eq_getElem hi5)
      have k1 := (HK.out i _ _ (List.getElem?_eq_getElem hi2) (List.getElem?_eq_getElem hi4)).keeps wb2
      have k2 := (HK'.out i _ _ (List.getElem?_eq_getElem hi3) (List.getElem?_eq_getElem hi5)).keeps wb2
      have hm := List.getElem_mem hi2
      have hS2 : cmpL ks us = orC (cmpT ks[i] us[i]) (cmpL (ks.drop (i + 1)) (us.drop (i + 1))) := by rw [← hS.out, List.drop_eq_getElem_cons hi2, List.drop_eq_getElem_cons hi3, cmpL]
      have HS2 := Lib.hid hS2
      have D1 := Lib.hid (IH.out _ hm _ _ _ _ k1 k2)
      have T1 : Hid (TB ((wr.alloc (.cells (ds[i]).cells 29)).alloc (.cells (es[i]).cells 29)) wr.heap.size ds[i]) := (TB.new wr ds[i]).alloc _
      have T2 : Hid (TB ((wr.alloc (.cells (ds[i]).cells 29)).alloc (.cells (es[i]).cells 29)) (wr.heap.size + 1) es[i]) := by
        have := TB.new (wr.alloc (.cells (ds[i]).cells 29)) es[i]
        rw [World.size_alloc] at this
        exact this
      have WB := Lib.hid wb2
      have q6 : IntKind.i64.wrap ((i : Int) + 1) = ((i + 1 : Nat) : Int) := by rw [IntWalk.i64_in _ (by omega)]; omega
      obtain ⟨⟨x0, x1, x2, x3, x4, x5, x6, x7⟩, -⟩ := T1.out.all
      obtain ⟨⟨z0, z1, z2, z3, z4, z5, z6, z7⟩, -⟩ := T2.out.all
      clear T1 T2 k1 k2 hS hS2 hm hc1 hc2 nb1 nb2' wb1 wb2 hb1 hb2 hW
      generalize ks[i] = kt at *
      generalize us[i] = ku at *
      generalize ds[i] = dt at *
      generalize es[i] = du at *
      clear hi2 hi3 hi4 hi5
      obtain ⟨r, hr⟩ : ∃ r, cmpT kt ku = r := ⟨_, rfl⟩
      rw [hr] at D1 HS2
      clear hr
      unfold TD.val at D1
      unfold TD.cells at *
      by_cases hx : r = 0
      · subst hx
        have S1 : Hid (cmpL (ks.drop (i + 1)) (us.drop (i + 1)) = cmpL ks us) := by show _ = _; rw [HS2.out]; rfl
        clear HS2
        go_wp2_with fail
        refine D1.out.mono ?_
        rintro e w5 ⟨rfl, hb5⟩
        have B5 := Lib.hid (WB.out.trans (hb5.mono WB.out.size))
        clear D1 hb5 WB
        go_wp2_with fail
        go_roundw
        case rel => exact ⟨i + 1, by omega, by simp, S1, B5⟩
        case measure => simp [intOf]; omega
      · have ex : (r != 0) = true := by simpa using hx
        have ex2 : (r == 0) = false := by simpa using hx
        have S1 : Hid (cmpL ks us = r) := by show _ = _; rw [HS2.out]; unfold orC; rw [if_neg hx]
        clear HS2 hx
        go_wp2_with fail
        refine D1.out.mono ?_
        rintro e w5 ⟨rfl, hb5⟩
        have B5 := Lib.hid (WB.out.trans (hb5.mono WB.out.size))
        clear D1 hb5 WB
        go_wp2_with fail
        go_ret
        exact ⟨by rw [S1.out]; rfl, B5.out⟩
    · have qi : ¬ (i : Int) < (n : Int) := by omega
      have S1 : Hid (cmpL ks us = 0) := by show _ = _; rw [← hS.out, List.drop_eq_nil_of_le (by have := HN.out; omega), List.drop_eq_nil_of_le (by have := HN'.out; omega)]; rfl
      clear hS
      go_wp2
      go_ret
      exact ⟨by rw [S1.out]; rfl, hW.out⟩

theorem TB.drew_ {w : World} {b : Nat} {d : TD} (h : TB w b d) : TB w.drew b d := h
set_option maxRecDepth 100000 in
set_option maxHeartbeats 8000000 in
theorem compare_any : ∀ (t u : Tm) (d e : TD) (w : World), TR w t d → TR w u e → Calls Try.prog 91 #[d.val, e.val] w (Tells w (.int .i64 (cmpT t u))) := by
  intro t
  induction t using Tm.ind with
  | h op f lo hi ks ih =>
  intro u d e w ht hu
  cases ht with
  | mk _ _ _ _ _ q A c ds hq hl hn hk hr =>
  cases hu with
  | mk op' f' lo' hi' ks' q' A' c' ds' hq' hl' hn' hk' hr' =>
  have T1 : Hid (TB ((w.alloc (.cells #[.int .i64 op, .int .u64 (uv (q 0)), .int .u64 (uv (q 1)), .int .u64 (uv (q 2)), .int .u64 (uv (q 3)), .int .i64 lo, .int .i64 hi, .slice A ks.length c] 29)).alloc (.cells #[.int .i64 op', .int .u64 (uv (q' 0)), .int .u64 (uv (q' 1)), .int .u64 (uv (q' 2)), .int .u64 (uv (q' 3)), .int .i64 lo', .int .i64 hi', .slice A' ks'.length c'] 29)) w.heap.size ⟨op, q, lo, hi, A, ks.length, c⟩) := (TB.new w ⟨op, q, lo, hi, A, ks.length, c⟩).alloc _
  have T2 : Hid (TB ((w.alloc (.cells #[.int .i64 op, .int .u64 (uv (q 0)), .int .u64 (uv (q 1)), .int .u64 (uv (q 2)), .int .u64 (uv (q 3)), .int .i64 lo, .int .i64 hi, .slice A ks.length c] 29)).alloc (.cells #[.int .i64 op', .int .u64 (uv (q' 0)), .int .u64 (uv (q' 1)), .int .u64 (uv (q' 2)), .int .u64 (uv (q' 3)), .int .i64 lo', .int .i64 hi', .slice A' ks'.length c'] 29)) (w.heap.size + 1) ⟨op', q', lo', hi', A', ks'.length, c'⟩) := by
    have := TB.new (w.alloc (.cells #[.int .i64 op, .int .u64 (uv (q 0)), .int .u64 (uv (q 1)), .int .u64 (uv (q 2)), .int .u64 (uv (q 3)), .int .i64 lo, .int .i64 hi, .slice A ks.length c] 29)) ⟨op', q', lo', hi', A', ks'.length, c'⟩
    rw [World.size_alloc] at this
    exact this
  have B1 : Hid (Below w.heap.size w ((w.alloc (.cells #[.int .i64 op, .int .u64 (uv (q 0)), .int .u64 (uv (q 1)), .int .u64 (uv (q 2)), .int .u64 (uv (q 3)), .int .i64 lo, .int .i64 hi, .slice A ks.length c] 29)).alloc (.cells #[.int .i64 op', .int .u64 (uv (q' 0)), .int .u64 (uv (q' 1)), .int .u64 (uv (q' 2)), .int .u64 (uv (q' 3)), .int .i64 lo', .int .i64 hi', .slice A' ks'.length c'] 29))) := ((Below.refl _ _).alloc (Nat.le_refl _) _).alloc (by simp) _
  have hE := eqk_is hq hq'
  have hS1 := setK_uv hq
  have hS2 := setK_uv hq'
  have CF := Lib.hid (fun (W : World) (hb : Below w.heap.size w W) (h5 : ks'.length = ks.length) => comparef_any A A' c c' ks ks' ds ds' W hl hl' h5 hn (fun i t d h1 h2 => (hk i t d h1 h2).keeps hb) (fun i t d h1 h2 => (hk' i t d h1 h2).keeps hb) (hr.below hb) (hr'.below hb) ih)
  obtain ⟨⟨x0, x1, x2, x3, x4, x5, x6, x7⟩, -⟩ := T1.out.all
  obtain ⟨⟨z0, z1, z2, z3, z4, z5, z6, z7⟩, -⟩ := T2.out.all
  clear ih hk hk' hr hr' hl hl' hn'
  unfold TD.val
  cases h2 : eqK f f' with
  | false =>
    have S0 : Hid (cmpT (.mk op f lo hi ks) (.mk op' f' lo' hi' ks') = lexC [uv (q 0), uv (q 1), uv (q 2), uv (q 3)] [uv (q' 0), uv (q' 1), uv (q' 2), uv (q' 3)]) := by
      show cmpT (.mk op f lo hi ks) (.mk op' f' lo' hi' ks') = _
      rw [cmpT, h2, hS1, hS2]; rfl
    rw [h2] at hE
    clear hS1 hS2 CF h2
    have WD := Lib.hid fun (W : World) (h1 : TB W w.heap.size ⟨op, q, lo, hi, A, ks.length, c⟩) (h2 : TB W (w.heap.size + 1) ⟨op', q', lo', hi', A', ks'.length, c'⟩) =>
      words_any 4 w.heap.size 1 (w.heap.size + 1) 1 [uv (q 0), uv (q 1), uv (q 2), uv (q 3)] [uv (q' 0), uv (q' 1), uv (q' 2), uv (q' 3)] W (by omega) rfl rfl
        (fun j x hj => by
          obtain ⟨⟨y0, y1, y2, y3, y4, y5, y6, y7⟩, -⟩ := h1.all
          match j, hj with
          | 0, hj => simp at hj; subst hj; exact y1
          | 1, hj => simp at hj; subst hj; exact y2
          | 2, hj => simp at hj; subst hj; exact y3
          | 3, hj => simp at hj; subst hj; exact y4
          | j + 4, hj => simp at hj)
        (fun j x hj => by
          obtain ⟨⟨y0, y1, y2, y3, y4, y5, y6, y7⟩, -⟩ := h2.all
          match j, hj with
          | 0, hj => simp at hj; subst hj; exact y1
          | 1, hj => simp at hj; subst hj; exact y2
          | 2, hj => simp at hj; subst hj; exact y3
          | 3, hj => simp at hj; subst hj; exact y4
          | j + 4, hj => simp at hj)
    go_enter Try.func91, Try.ntmps91
    go_wp2_with fail
    go_still_tail 4, (by kernel_rfl)
    change wpList _ _ _ _ _ (World.drew _)
    have WD2 := Lib.hid (WD.out _ T1.out.drew_ T2.out.drew_)
    have B2 := Lib.hid B1.out.drew
    clear WD x0 x1 x2 x3 x4 x5 x6 x7 z0 z1 z2 z3 z4 z5 z6 z7 T1 T2 B1
    generalize lexC _ _ = r at *
    generalize World.drew _ = wd at *
    go_wp2_with fail
    refine WD2.out.mono ?_
    rintro e w2 ⟨rfl, rfl⟩
    go_wp2
    go_ret
    exact ⟨by rw [S0.out]; rfl, B2.out⟩
  | true =>
    have S0 : ∀ r, orL [cmpI op op', cmpI lo lo', cmpI hi hi', cmpI (ks.length : Int) (ks'.length : Int)] = r → cmpT (.mk op f lo hi ks) (.mk op' f' lo' hi' ks') = if r = 0 then cmpL ks ks' else r := by
      intro r hr
      rw [cmpT, h2, if_pos rfl]
      simp only [orL, orC_zero] at hr
      rw [hr]
    have SL : orL [cmpI op op', cmpI lo lo', cmpI hi hi', cmpI (ks.length : Int) (ks'.length : Int)] = 0 → ks'.length = ks.length := by
      intro hr
      simp only [orL, orC_zero] at hr
      have h4 : cmpI (ks.length : Int) (ks'.length : Int) = 0 := by
        unfold orC at hr
        repeat' split at hr
        all_goals first | exact hr | omega
      have := cmpI_zero.1 h4
      omega
    have SS := Lib.hid S0; have SLH := Lib.hid SL
    rw [h2] at hE
    have C1 := Lib.hid fun W => cmp_int op op' W
    have C2 := Lib.hid fun W => cmp_int lo lo' W
    have C3 := Lib.hid fun W => cmp_int hi hi' W
    have C4 := Lib.hid fun W => cmp_int (ks.length : Int) (ks'.length : Int) W
    have CO := Lib.hid fun (g : Nat) (W : World) (hc) => orL_any g [cmpI op op', cmpI lo lo', cmpI hi hi', cmpI (ks.length : Int) (ks'.length : Int)] W (by simp) hc
    have T3 := Lib.hid T1.out.drew_; have T4 := Lib.hid T2.out.drew_; have B2 := Lib.hid B1.out.drew
    clear hS1 hS2 h2 S0 SL
    generalize cmpI op op' = c1 at *
    generalize cmpI lo lo' = c2 at *
    generalize cmpI hi hi' = c3 at *
    generalize cmpI (ks.length : Int) (ks'.length : Int) = c4 at *
    go_enter Try.func91, Try.ntmps91
    go_wp2_with fail
    generalize (w.alloc (.cells #[.int .i64 op, .int .u64 (uv (q 0)), .int .u64 (uv (q 1)), .int .u64 (uv (q 2)), .int .u64 (uv (q 3)), .int .i64 lo, .int .i64 hi, .slice A ks.length c] 29)).alloc (.cells #[.int .i64 op', .int .u64 (uv (q' 0)), .int .u64 (uv (q' 1)), .int .u64 (uv (q' 2)), .int .u64 (uv (q' 3)), .int .i64 lo', .int .i64 hi', .slice A' ks'.length c'] 29) = W0 at *
    go_still_tail 22, (by kernel_rfl)
    still_call (C1.out _)
    repeat still_step
    still_call (C2.out _)
    repeat still_step
    still_call (C3.out _)
    repeat still_step
    still_call (C4.out _)
    repeat still_step
    refine wpStill_nil ?_
    change wpList _ _ _ _ _ W0.drew
    clear x0 x1 x2 x3 x4 x5 x6 x7 z0 z1 z2 z3 z4 z5 z6 z7 T1 T2 B1 C1 C2 C3 C4 hE
    generalize W0.drew = wd at *
    have T5 := Lib.hid (T3.out.alloc (.cells #[.int .i64 c1, .int .i64 c2, .int .i64 c3, .int .i64 c4] 3))
    have T6 := Lib.hid (T4.out.alloc (.cells #[.int .i64 c1, .int .i64 c2, .int .i64 c3, .int .i64 c4] 3))
    have B5 := Lib.hid (B2.out.alloc B2.out.size (.cells #[.int .i64 c1, .int .i64 c2, .int .i64 c3, .int .i64 c4] 3))
    have N5 := heap_alloc_new wd (.cells #[.int .i64 c1, .int .i64 c2, .int .i64 c3, .int .i64 c4] 3)
    have D5 := Lib.hid (CO.out wd.heap.size (wd.alloc (.cells #[.int .i64 c1, .int .i64 c2, .int .i64 c3, .int .i64 c4] 3)) (fun j x hj => by
      rw [cell_of_row _ _ j _ _ _ N5]
      match j, hj with
      | 0, hj => simp at hj; subst hj; rfl
      | 1, hj => simp at hj; subst hj; rfl
      | 2, hj => simp at hj; subst hj; rfl
      | 3, hj => simp at hj; subst hj; rfl
      | j + 4, hj => simp at hj))
    clear N5 CO T3 T4 B2
    obtain ⟨r, hr⟩ : ∃ r, orL [c1, c2, c3, c4] = r := ⟨_, rfl⟩
    rw [hr] at D5
    have SR := Lib.hid (SS.out r hr)
    have SL := Lib.hid (fun h : r = 0 => SLH.out (hr.trans h))
    clear hr SS SLH
    go_wp2_with fail
    refine D5.out.mono ?_
    rintro e w2 ⟨rfl, rfl⟩
    clear D5
    generalize wd.alloc (.cells #[.int .i64 c1, .int .i64 c2, .int .i64 c3, .int .i64 c4] 3) = w6 at *
    by_cases hx : r = 0
    · have h5 := SL.out hx
      have S7 : Hid (cmpT (.mk op f lo hi ks) (.mk op' f' lo' hi' ks') = cmpL ks ks') := by show _ = _; rw [SR.out, if_pos hx]
      have D7 := Lib.hid (CF.out w6 B5.out h5)
      subst hx
      clear SL SR CF
      have HH := Lib.hid h5
      clear h5
      obtain ⟨⟨x0, x1, x2, x3, x4, x5, x6, x7⟩, -⟩ := T5.out.all
      obtain ⟨⟨z0, z1, z2, z3, z4, z5, z6, z7⟩, -⟩ := T6.out.all
      generalize cmpL ks ks' = r at *
      go_wp2_with fail
      refine D7.out.mono ?_
      rintro e w8 ⟨rfl, hb8⟩
      have B8 := Lib.hid (B5.out.trans (hb8.mono B5.out.size))
      clear hb8 D7
      go_wp2
      go_ret
      exact ⟨by rw [S7.out]; rfl, B8.out⟩
    · have S7 : Hid (cmpT (.mk op f lo hi ks) (.mk op' f' lo' hi' ks') = r) := by show _ = _; rw [SR.out, if_neg hx]
      have ex : (r != 0) = true := by simpa using hx
      have ex2 : (r == 0) = false := by simpa using hx
      clear SL SR CF hx
      go_wp2
      go_ret
      exact ⟨by rw [S7.out]; rfl, B5.out⟩
end Go.Proofs.Ytkljagffccommaa
namespace Go.Proofs.Ytkljagffccommaa
open Go.RowKit

theorem gO_snoc (op : Int) (ks : List Tm) (i : Nat) (hi : i < ks.length) : (ks.take (i + 1)).flatMap (gO op) = (ks.take i).flatMap (gO op) ++ gO op ks[i] := by
  rw [← List.take_append_getElem hi, List.flatMap_append]; simp
theorem gO_le (op : Int) (ks : List Tm) (i : Nat) : ((ks.take i).flatMap (gO op)).length ≤ (ks.flatMap (gO op)).length := by
  conv => rhs; rw [← List.take_append_drop i ks]
  rw [List.flatMap_append, List.length_append]; omega
theorem op_ts {w : World} {S : Nat → Prop} {t : Tm} {d : TD} (h : TS w S t d) : d.op = opOf t := by cases h with | mk => rfl
theorem op_tv {w : World} {S : Nat → Prop} {t : Tm} {d : TD} (h : TV w S t d) : d.op = opOf t := by cases h with | mk => rfl

theorem Gc.call {N pg ps : Nat} {op : Int} {kt : Tm} {dt : TD} {W : World} {A1 : Option Addr} {c1 : Nat} {ds1 : List TD} {lts : List Tm} (h : Gc N pg ps op (kidsOf kt)) (ht : TS W (fun k => k < N) kt dt) {M : Nat} (hNM : N ≤ M) (hN : M ≤ W.heap.size) (hk : Kd W M A1 c1 ds1 lts)
    (hl : lts.length + ((kidsOf kt).flatMap (gO op)).length ≤ 500000) (hs : SF W pg ps) :
    Calls Try.prog 39 #[.slice A1 ds1.length c1, .int .i64 op, .slice dt.A dt.n dt.c, .pointer (some ⟨pg, 0, none⟩), .pointer (some ⟨ps, 0, none⟩)] W (Gp W M A1 (lts ++ (kidsOf kt).flatMap (gO op))) := by
  cases ht with
  | mk _ _ _ _ _ q A c ds hq hl' hn hk' hr => exact h M A1 c1 ds1 lts A c ds W hNM hN hk hr hl' hk' hl hs
theorem tv_row {w : World} {S : Nat → Prop} {t : Tm} {d : TD} (h : TV w S t d) (h2 : 2 ≤ (kidsOf t).length) : ∃ (b : Nat) (es : List TD), d.A = some ⟨b, 0, none⟩ ∧ d.n = es.length ∧ es.length = (kidsOf t).length ∧ RowAt w d.A es ∧
    ∀ (i : Nat) (t' : Tm) (d' : TD), (kidsOf t)[i]? = some t' → es[i]? = some d' → TV w S t' d' := by
  have htr := h.tr
  cases h with
  | mk op f lo hi ks q A c ds hq hl hn hk hr =>
    obtain ⟨b, e, _, hrow⟩ := hr (by have : 2 ≤ ks.length := h2; omega)
    refine ⟨b, ds, e, hl.symm, hl, ?_, hk⟩
    intro h0
    obtain ⟨cur, hcur, _⟩ := id hrow
    have hlt : b < w.heap.size := by
      rcases Nat.lt_or_ge b w.heap.size with h | h
      · exact h
      · rw [Array.getElem?_eq_none h] at hcur; cases hcur
    refine ⟨b, 0, e, hlt, fun i d hd j hj => ?_⟩
    rw [Nat.zero_add]; exact hrow.cell hd j hj

set_option maxRecDepth 100000 in
set_option maxHeartbeats 8000000 in
theorem gather_any (N pg ps : Nat) (hpg : pg < N) (hps : ps < N) (op : Int) (hop : op = 6 ∨ op = 7) (ks : List Tm) (h5 : ks.length ≤ 500)
    (HS0 : ∀ k ∈ ks, Sc N pg ps k) (HG0 : ∀ k ∈ ks, opOf k = op → Gc N pg ps op (kidsOf k)) (HL0 : ∀ k ∈ ks, opOf (sPr k).s = op → 2 ≤ (kidsOf (sPr k).s).length) : Gc N pg ps op ks := by
  intro M A c ds lts B c2 es w hNM hN hkd hr hl hk hlen hsf
  obtain ⟨m, hm⟩ : ∃ m, ks.length = m := ⟨_, rfl⟩
  have L0 : Hid (Gl w w M A A c ds (lts ++ (ks.take 0).flatMap (gO op))) := ⟨by rw [List.take_zero]; simpa using hkd, ⟨rfl, rfl, rfl, Nat.le_refl _, fun _ _ _ => rfl⟩, .inl rfl⟩
  have HS := Lib.hid HS0; have HG := Lib.hid HG0; have HL := Lib.hid HL0; have HK := Lib.hid hk; have HR := Lib.hid hr; have HE := Lib.hid hl; have HM := Lib.hid hm; have HKD := Lib.hid hkd; have HSF := Lib.hid hsf; have HB := Lib.hid hlen; have HN := Lib.hid hN; have HNM := Lib.hid hNM; have HOP := Lib.hid hop; have H1 := Lib.hid hpg; have H2 := Lib.hid hps
  rw [hm] at h5 ⊢
  clear HS0 HG0 HL0 hk hr hl hm hkd hsf hlen hN hNM hop hpg hps
  go_enter Try.func39, Try.ntmps39
  go_wp2_with fail
  go_loopw [0, 13] (fun l v wr => ∃ (i : Nat) (A1 : Option Addr) (c1 : Nat) (ds1 : List TD), i ≤ m ∧ l = .slice A1 ds1.length c1 ∧ v = .int .i64 (i : Nat) ∧ Hid (Gl w wr M A A1 c1 ds1 (lts ++ (ks.take i).flatMap (gO op)))) (fun _ v _ => m - (intOf v).toNat)
  case atStart => exact ⟨0, A, c, ds, Nat.zero_le _, rfl, rfl, L0⟩
  case round =>
    obtain ⟨i, A1, c1, ds1, hi1, rfl, rfl, hW⟩ := hrel
    clear L0
    by_cases hlt : i < m
    · have qi : (i : Int) < (m : Int) := by omega
      have hi2 : i < ks.length := by have := HM.out; omega
      have hi4 : i < es.length := by have h1 := HE.out; omega
      have kp := hW.out.keep HNM.out HN.out HKD.out
      obtain ⟨kb1, off1, rfl, hbN, hb1, hc1⟩ := HR.out (by omega)
      have hdt := List.getElem?_eq_getElem hi4
      have cc := fun j hj => (World.cell?_of_block (a := ⟨kb1, off1 + i * 8 + j, none⟩) (kp.2 kb1 hbN)).trans (hc1 i _ hdt j hj)
      have a0 : wr.cell? ⟨kb1, off1 + i * 8, none⟩ = some (.int .i64 es[i].op) := cc 0 (by omega)
      have a1 : wr.cell? ⟨kb1, off1 + i * 8 + 1, none⟩ = some (.int .u64 (uv (es[i].q 0))) := cc 1 (by omega)
      have a2 : wr.cell? ⟨kb1, off1 + i * 8 + 2, none⟩ = some (.int .u64 (uv (es[i].q 1))) := cc 2 (by omega)
      have a3 : wr.cell? ⟨kb1, off1 + i * 8 + 3, none⟩ = some (.int .u64 (uv (es[i].q 2))) := cc 3 (by omega)
      have a4 : wr.cell? ⟨kb1, off1 + i * 8 + 4, none⟩ = some (.int .u64 (uv (es[i].q 3))) := cc 4 (by omega)
      have a5 : wr.cell? ⟨kb1, off1 + i * 8 + 5, none⟩ = some (.int .i64 es[i].lo) := cc 5 (by omega)
      have a6 : wr.cell? ⟨kb1, off1 + i * 8 + 6, none⟩ = some (.int .i64 es[i].hi) := cc 6 (by omega)
      have a7 : wr.cell? ⟨kb1, off1 + i * 8 + 7, none⟩ = some (.slice es[i].A es[i].n es[i].c) := cc 7 (by omega)
      have hmem := List.getElem_mem hi2
      have tk := Lib.hid (gO_snoc op ks i hi2)
      have le1 := gO_le op ks (i + 1)
      have ht := HK.out i _ _ (List.getElem?_eq_getElem hi2) hdt
      have hopd := op_ts ht
      have nb := below_new wr (.cells (es[i]).cells 29)
      have ht' : TS (wr.alloc (.cells (es[i]).cells 29)) (fun k => k < N) ks[i] es[i] := ht.to (Nat.le_trans kp.1 nb.size) fun k hk _ => ⟨hk, (nb.block k (by have := HN.out; have := HNM.out; have := kp.1; omega)).trans (kp.2 k hk)⟩
      have sf' : SF (wr.alloc (.cells (es[i]).cells 29)) pg ps := HSF.out.keep ⟨Nat.le_trans kp.1 nb.size, fun k hk => (nb.block k (by have := HN.out; have := HNM.out; have := kp.1; omega)).trans (kp.2 k hk)⟩ H1.out H2.out
      have SC := HS.out _ hmem; have GC := HG.out _ hmem; have LC := HL.out _ hmem
      have gs := gO_same op HOP.out ks[i]; have go := gO_other op HOP.out ks[i]
      have T1 := TB.new wr es[i]
      have hlen1 := HB.out
      rw [tk.out, List.length_append] at le1
      generalize ks[i] = kt at *
      generalize es[i] = dt at *
      have q6 : IntKind.i64.wrap ((i : Int) + 1) = ((i + 1 : Nat) : Int) := by rw [IntWalk.i64_in _ (by omega)]; omega
      have wN : M ≤ wr.heap.size := Nat.le_trans HN.out kp.1
      have hlr : lts.length + ((ks.take i).flatMap (gO op)).length ≤ 500000 := by omega
      have TK := Lib.hid tk.out
      clear tk
      have T1h := Lib.hid T1; have SF1 := Lib.hid sf'; have HT := Lib.hid ht'; have WN := Lib.hid wN; have HOD := Lib.hid hopd; have LE1 := Lib.hid le1; have HLR := Lib.hid hlr
      have sf0 := sf'.1; have sf1 := sf'.2
      obtain ⟨⟨x0, x1, x2, x3, x4, x5, x6, x7⟩, -⟩ := T1.all
      have pgl : pg < wr.heap.size := by have := H1.out; have := HNM.out; omega
      have psl : ps < wr.heap.size := by have := H2.out; have := HNM.out; omega
      clear hc1 cc hi2 hi4 hb1 hdt hmem ht hopd nb ht' sf' T1 le1 hlen1 kp hbN wN hlr
      by_cases ho : dt.op = op
      · have e1 : (dt.op == op) = true := by rw [ho]; simp
        have hko : opOf kt = op := HOD.out.symm.trans ho
        have eG := gs hko
        have LE := LE1.out
        rw [eG] at LE
        have W1 := hW.out.to (below_new wr (.cells dt.cells 29))
        have D1 := Lib.hid ((GC hko).call HT.out HNM.out (Nat.le_trans WN.out (by simp)) W1.kd (by have := HB.out; rw [List.length_append]; omega) SF1.out)
        have HO := Lib.hid ho; have EG := Lib.hid eG; have G1 := Lib.hid W1
        clear ho hko eG LE W1 SC GC LC gs go
        unfold TD.cells at *
        go_wp2_with fail
        refine D1.out.mono ?_
        rintro e w5 ⟨A2, c2', ds2, rfl, kd2, gr2, nr2⟩
        have R : Hid (Gl w w5 M A A2 c2' ds2 (lts ++ (ks.take (i + 1)).flatMap (gO op))) := by
          refine ⟨?_, grown_trans G1.out.gr G1.out.nr gr2, nr_trans G1.out.gr.size G1.out.nr nr2⟩
          rw [TK.out, EG.out, ← List.append_assoc]; exact kd2
        clear D1 kd2 gr2 nr2 a0 a1 a2 a3 a4 a5 a6 a7 x0 x1 x2 x3 x4 x5 x6 x7 sf0 sf1 hW G1
        go_wp2_with fail
        go_roundw
        case rel => exact ⟨i + 1, A2, c2', ds2, by omega, rfl, by simp, R⟩
        case measure => simp [intOf]; omega
      · have e1 : (dt.op == op) = false := by rw [beq_eq_false_iff_ne]; exact ho
        have hko : ¬ opOf kt = op := fun e => ho (HOD.out.trans e)
        have eG := go hko
        have D1 := Lib.hid (SC dt _ (Nat.le_trans (Nat.le_trans HNM.out WN.out) (by simp)) HT.out SF1.out)
        have HL2 := Lib.hid LC; have EG := Lib.hid eG
        generalize (sPr kt).s = st at *
        clear ho hko eG SC GC LC gs go
        unfold TD.cells TD.val at *
        go_wp2_with fail
        refine D1.out.mono ?_
        rintro e w5 ⟨d5, rfl, hv5, hb5⟩
        have T5 := Lib.hid (T1h.out.below hb5)
        have V5 := Lib.hid hv5
        have B5 := Lib.hid ((below_new wr (.cells #[.int .i64 dt.op, .int .u64 (uv (dt.q 0)), .int .u64 (uv (dt.q 1)), .int .u64 (uv (dt.q 2)), .int .u64 (uv (dt.q 3)), .int .i64 dt.lo, .int .i64 dt.hi, .slice dt.A dt.n dt.c] 29)).trans (hb5.mono (by simp)))
        clear D1 hb5 hv5 a0 a1 a2 a3 a4 a5 a6 a7 x0 x1 x2 x3 x4 x5 x6 x7 sf0 sf1 T1h SF1 HT
        obtain ⟨⟨y0, y1, y2, y3, y4, y5, y6, y7⟩, z0, z1, z2, z3, z4, z5, z6, z7⟩ := T5.out.all
        unfold TD.val
        go_upto_region 7 with fail
        go_cut [33] (fun s wx => s = .bool (d5.op == op) ∧ TB wx wr.heap.size d5 ∧ TV wx (Sn (wr.heap.size + 1) wx) st d5 ∧ Below wr.heap.size wr wx)
        case first =>
          go_wp2
          go_meet
          refine ⟨rfl, T5.out.to8 d5, V5.out.to fun k hk => ⟨⟨by have := hk.1; simp at this; omega, lt_set8 hk.2⟩, fun _ => set8_heap _ _ _ _ _ _ _ _ _ _ _ (by have := hk.1; simp at this; omega)⟩, bel8 B5.out (Nat.le_refl _) _ _ _ _ _ _ _ _⟩
        case rest =>
          obtain ⟨rfl, t6, v6, b6⟩ := hcut
          clear T5 V5 B5 y0 y1 y2 y3 y4 y5 y6 y7 z0 z1 z2 z3 z4 z5 z6 z7
          have T6 := Lib.hid t6; have V6 := Lib.hid v6; have B6 := Lib.hid b6
          have G6 := Lib.hid (hW.out.to b6)
          have LT : Hid (∀ k, ow A1 = some k → k < wr.heap.size) := fun k hk => hW.out.kd.own.lt hk
          clear t6 v6 b6
          obtain ⟨⟨y0, y1, y2, y3, y4, y5, y6, y7⟩, -⟩ := T6.out.all
          have hod5 := op_tv V6.out
          by_cases h6 : d5.op = op
          · have e2 : (d5.op == op) = true := by rw [h6]; simp
            have hso : opOf st = op := hod5.symm.trans h6
            obtain ⟨b, es5, hA, hn, hl5, hrow, hels⟩ := tv_row V6.out (HL2.out hso)
            have eS : gO op kt = kidsOf st := by rw [EG.out]; unfold spl; rw [if_pos hso]
            have ES := Lib.hid eS
            have HR5 := Lib.hid hrow
            have HV5 : Hid (∀ (i : Nat) (t : Tm) (d : TD), (kidsOf st)[i]? = some t → es5[i]? = some d → TV wc (fun k => Sn M wc k ∧ some k ≠ ow A1) t d) := fun i t d h1 h2 =>
              (hels i t d h1 h2).to fun k hk => ⟨⟨⟨by have := hk.1; have := WN.out; omega, hk.2⟩, fun e => by have := LT.out k e.symm; have := hk.1; omega⟩, fun _ => rfl⟩
            have HLL := Lib.hid hl5
            have hlx : ds1.length + es5.length ≤ 1048576 := by
              have h7 := G6.out.kd.len; rw [List.length_append] at h7; have := HLR.out; have h2 := LE1.out; rw [ES.out] at h2; have := HB.out; omega
            obtain ⟨o5, q5, l5, h5', A5, n5, c5⟩ := d5
            simp only at hA hn y7 y0 e2
            subst hA; subst hn
            clear hso eS hrow hels hl5 hod5 h6 hW
            go_wp2_with (at_builtin; refine appTs rfl (.tmp 34) (.tmp 36) rfl A1 c1 ds1 G6.out.kd.own _ c5 es5 (fun h => by cases h) HR5.out hlx rfl rfl ?_)
            intro A6 c6 ds6 w6 hd6 ho6 hg6 hr6
            have R : Hid (Gl w w6 M A A6 c6 ds6 (lts ++ (ks.take (i + 1)).flatMap (gO op))) := by
              refine ⟨?_, grown_trans G6.out.gr G6.out.nr hg6, nr_trans G6.out.gr.size G6.out.nr hr6⟩
              rw [TK.out, ES.out, ← List.append_assoc]
              exact G6.out.kd.pushs (Nat.le_trans WN.out B6.out.size) HLL.out HV5.out hd6.out ho6 hg6 hr6
            clear hg6 hr6 ho6 hd6 y0 y1 y2 y3 y4 y5 y6 y7
            go_wp2_with fail
            go_roundw
            case rel => exact ⟨i + 1, A6, c6, ds6, by omega, rfl, by simp, R⟩
            case measure => simp [intOf]; omega
          · have e2 : (d5.op == op) = false := by rw [beq_eq_false_iff_ne]; exact h6
            have hso : ¬ opOf st = op := fun e => h6 (hod5.trans e)
            have eS : gO op kt = [st] := by rw [EG.out]; unfold spl; rw [if_neg hso]
            have ES := Lib.hid eS
            have hdl : ds1.length ≤ 1048576 := by have h7 := G6.out.kd.len; rw [List.length_append] at h7; have := HLR.out; omega
            have K7 := Lib.hid (G6.out.to (below_new wc (.cells d5.cells 29)))
            have V7 := Lib.hid (V6.out.snk (below_new wc (.cells d5.cells 29)))
            clear hso eS hod5 h6 hW
            go_wp2_with (at_builtin; refine appT rfl (.tmp 38) (.tmp 40) rfl A1 c1 ds1 K7.out.kd.own _ 1 d5 (TB.new wc d5) hdl rfl rfl ?_)
            intro A6 c6 ds6 w6 hd6 ho6 hg6 hr6
            have R : Hid (Gl w w6 M A A6 c6 ds6 (lts ++ (ks.take (i + 1)).flatMap (gO op))) := by
              refine ⟨?_, grown_trans K7.out.gr K7.out.nr hg6, nr_trans K7.out.gr.size K7.out.nr hr6⟩
              rw [TK.out, ES.out, ← List.append_assoc]
              exact K7.out.kd.push (by have := WN.out; have := B6.out.size; simp; omega) V7.out (by have := WN.out; omega) (fun k hk => by have := LT.out k hk; omega) hd6.out ho6 hg6 hr6
            clear hg6 hr6 ho6 hd6 y0 y1 y2 y3 y4 y5 y6 y7
            go_wp2_with fail
            go_roundw
            case rel => exact ⟨i + 1, A6, c6, ds6, by omega, rfl, by simp, R⟩
            case measure => simp [intOf]; omega
    · have qi : ¬ (i : Int) < (m : Int) := by omega
      have e1 : ks.take i = ks := List.take_of_length_le (by have := HM.out; omega)
      rw [e1] at hW
      have H := Lib.hid hW.out
      clear hW e1
      go_wp2
      go_ret
      exact ⟨A1, c1, ds1, rfl, H.out.kd, H.out.gr, H.out.nr⟩
end Go.Proofs.Ytkljagffccommaa
namespace Go.Proofs.Ytkljagffccommaa
open Go.RowKit

theorem isk_no : IsK noF (fun _ => 0#64) := fun i _ => by simp [kb, noF]
/-- a term of a kind around kids; without kids one of another kind, and a single kid alone -/
def arT (op : Int) (ts : List Tm) (no : Int) : Tm :=
  match ts with
  | [] => .mk no noF 0 0 []
  | [t] => t
  | ts => .mk op noF 0 0 ts

/-- a term in blocks of a set, after a call -/
def Wos (w : World) (S : Nat → Prop) (t : Tm) (e : Ending) (w' : World) : Prop := ∃ d : TD, e = .returned d.val ∧ TS w' S t d ∧ Below w.heap.size w w'

set_option maxRecDepth 100000 in
set_option maxHeartbeats 1000000 in
theorem around_any (op no : Int) (S : Nat → Prop) (A : Option Addr) (c : Nat) (ds : List TD) (ts : List Tm) (w : World) (hr : RowIn w S A ds) (hl : ds.length = ts.length)
    (h5 : ts.length ≤ 9223372036854775807) (hk : ∀ (i : Nat) (t : Tm) (d : TD), ts[i]? = some t → ds[i]? = some d → TS w S t d) :
    Calls Try.prog 68 #[.int .i64 op, .slice A ds.length c, .int .i64 no] w (Wos w S (arT op ts no)) := by
  match ts, ds, hl with
  | [], [], _ =>
    go_enter Try.func68, Try.ntmps68
    go_wp2
    refine bodyPost_ret (v := TD.val ⟨no, fun _ => 0#64, 0, 0, none, 0, 0⟩) ?_ rfl ?_
    · simp [results, Try.results68, go_sem, TD.val, uv]
    · exact ⟨_, rfl, .mk no noF 0 0 [] _ none 0 [] isk_no rfl (by simp) (fun i t d h => by simp at h) (fun h => by simp at h), below_new _ _⟩
  | [t], [d], _ =>
    obtain ⟨b, off, rfl, hb, hlt, hc⟩ := hr (by simp)
    have V : Hid (∀ W, Below w.heap.size w W → TS W S t d) := fun W hW => (hk 0 t d rfl rfl).keeps hW
    obtain ⟨a0, a1, a2, a3, a4, a5, a6, a7⟩ := kid_cells (below_new w (.cells #[.int .i64 0, .int .u64 0, .int .u64 0, .int .u64 0, .int .u64 0, .int .i64 0, .int .i64 0, .slice none 0 0] 29)) hlt hc (i := 0) (d := d) rfl
    clear hk hr hc hb
    simp only [List.length_singleton, List.length_cons, List.length_nil, Nat.zero_add, Nat.zero_mul, Nat.add_zero] at *
    go_enter Try.func68, Try.ntmps68
    go_wp2
    refine bodyPost_ret (v := TD.val d) ?_ rfl ?_
    · simp [results, Try.results68, go_sem, TD.val]
    · exact ⟨d, rfl, V.out _ (below_new _ _), below_new _ _⟩
  | t0 :: t1 :: ts, d0 :: d1 :: ds, hl =>
    obtain ⟨m, hm⟩ : ∃ m, (d0 :: d1 :: ds).length = m := ⟨_, rfl⟩
    have h2 : 2 ≤ m := by simp at hm; omega
    have V : Hid (∀ W, Below w.heap.size w W → TS W S (arT op (t0 :: t1 :: ts) no) ⟨op, fun _ => 0#64, 0, 0, A, m, c⟩) := fun W hW => by
      have : TS w S (arT op (t0 :: t1 :: ts) no) ⟨op, fun _ => 0#64, 0, 0, A, (t0 :: t1 :: ts).length, c⟩ := .mk op noF 0 0 _ _ A c _ isk_no hl h5 hk hr
      rw [← hl, hm] at this
      exact this.keeps hW
    rw [hm]
    have q1 : ((m : Int) == 0) = false := by rw [beq_eq_false_iff_ne]; omega
    have q2 : ((m : Int) == 1) = false := by rw [beq_eq_false_iff_ne]; omega
    clear hk hr hm hl h5
    go_enter Try.func68, Try.ntmps68
    go_wp2
    refine bodyPost_ret (v := TD.val ⟨op, fun _ => 0#64, 0, 0, A, m, c⟩) ?_ rfl ?_
    · simp [results, Try.results68, go_sem, TD.val, uv]
    · exact ⟨_, rfl, V.out _ (below_new _ _), below_new _ _⟩
end Go.Proofs.Ytkljagffccommaa
