/- SyntaxGroups: its walk. -/
import Derived.Test.YtnaecagmcpndhaaV4a
namespace Go.Proofs.Ytnaecagmcpndhaa
open Go.RowKit
set_option maxRecDepth 100000 in
set_option maxHeartbeats 4000000 in
theorem groups_walk (A : Option Addr) (c : Nat) (bs : List Nat) (A2 : Option Addr) (c2 : Nat) (bs2 : List Nat) (w : World) (hx : Bts w A bs) (lx : bs.length ≤ 140737488355328) (hx2 : Bts w A2 bs2) (lx2 : bs2.length ≤ 140737488355328) :
    Calls Try.prog 6 #[.slice A bs.length c, .slice A2 bs2.length c2] w (Tells w (.bool true)) := by
  have S := Lib.hid (speaks_any w)
  have q0 : IntKind.i64.wrap ((bs.length : Int) + (bs2.length : Int)) = (bs.length : Int) + (bs2.length : Int) := by rw [IntWalk.i64_in _ (by omega)]
  by_cases h150 : 150 < bs.length + bs2.length
  · have q1 : (150 : Int) < (bs.length : Int) + (bs2.length : Int) := by omega
    clear hx hx2
    go_enter Try.func6, Try.ntmps6
    go_wp2_with fail
    refine S.out.mono ?_
    rintro e w1 ⟨rfl, hb1⟩
    have B1 := Lib.hid hb1
    clear hb1 S
    go_wp2
    go_ret
    exact ⟨rfl, B1.out⟩
  have q1 : ¬ (150 : Int) < (bs.length : Int) + (bs2.length : Int) := by omega
  have q2 : ¬ (150 : Int) < (bs.length : Int) := by omega
  have q3 : ¬ (150 : Int) < (bs2.length : Int) := by omega
  obtain ⟨⟨x, ea, ya⟩, hpa⟩ : ∃ r, parseF bs = r := ⟨_, rfl⟩
  obtain ⟨⟨y, eb, yb⟩, hpb⟩ : ∃ r, parseF bs2 = r := ⟨_, rfl⟩
  obtain ⟨za, hza⟩ : ∃ z : Int, (ea : Int) = z := ⟨_, rfl⟩
  obtain ⟨zb, hzb⟩ : ∃ z : Int, (eb : Int) = z := ⟨_, rfl⟩
  have D1 := Lib.hid fun W hb => gives A c bs W x ea za ya (hx.below (w' := W) hb) hpa hza
  have D2 := Lib.hid fun W hb => gives A2 c2 bs2 W y eb zb yb (hx2.below (w' := W) hb) hpb hzb
  by_cases hea : za = 0
  · by_cases heb : zb = 0
    · subst hea
      subst heb
      obtain ⟨Wa, _⟩ := well_of bs x ya (by rw [hpa]; congr 2; omega)
      obtain ⟨Wb, _⟩ := well_of bs2 y yb (by rw [hpb]; congr 2; omega)
      have es := btl_strN bs (fun z hz => bn_mem hx.1 z hz)
      have es2 := btl_strN bs2 (fun z hz => bn_mem hx2.1 z hz)
      have kA := fun (W : World) (hb : Below w.heap.size w W) => conv_all (l := bs) c (hx.below hb)
      have kB := fun (W : World) (hb : Below w.heap.size w W) => conv_all (l := bs2) c2 (hx2.below hb)
      generalize strN bs = sA at *
      generalize strN bs2 = sB at *
      have zA : sA.size = bs.length := by rw [← len_btl, es]
      have zB : sB.size = bs2.length := by rw [← len_btl, es2]
      obtain ⟨D, hD⟩ := parse_grp bs x Wa (by omega)
      obtain ⟨DA, DE, hiff, hDA, hDE⟩ := parse_two bs bs2 x y Wa Wb (by omega)
      have sz1 : sA.size ≤ 150 := by omega
      have sz2 : sB.size ≤ 150 := by omega
      have ks := conv_s
      have KA := Lib.hid kA; have KB := Lib.hid kB
      have ES := Lib.hid es; have ES2 := Lib.hid es2
      have HD := Lib.hid hD; have HDA := Lib.hid hDA; have HDE := Lib.hid hDE; have HI := Lib.hid hiff
      have ZA := Lib.hid zA; have ZB := Lib.hid zB
      clear hx hx2 hpa hpb hza hzb Wa Wb es es2 kA kB hD hDA hDE hiff zA zB h150
      have P3 := Lib.hid fun (W : World) (k n : Nat) (t : Tm) (e : Nat) (z y : Int) (hk : W.heap.size = k) (hn : (⟨#[40]⟩ ++ sA ++ ⟨#[41]⟩ : ByteArray).size = n) (h : parseF ([40] ++ (bs ++ [41])) = (t, e, y)) (hz : (e : Int) = z) => gives_s (⟨#[40]⟩ ++ sA ++ ⟨#[41]⟩) ([40] ++ (bs ++ [41])) t e z y W k n hk hn (by rw [btl_app, btl_app, ES.out, List.append_assoc]; rfl) h hz
      have P4 := Lib.hid fun (W : World) (k n : Nat) (t : Tm) (e : Nat) (z y : Int) (hk : W.heap.size = k) (hn : (⟨#[40]⟩ ++ sA ++ ⟨#[41, 124, 40]⟩ ++ sB ++ ⟨#[41]⟩ : ByteArray).size = n) (h : parseF ([40] ++ (bs ++ ([41, 124, 40] ++ (bs2 ++ [41])))) = (t, e, y)) (hz : (e : Int) = z) => gives_s (⟨#[40]⟩ ++ sA ++ ⟨#[41, 124, 40]⟩ ++ sB ++ ⟨#[41]⟩) ([40] ++ (bs ++ ([41, 124, 40] ++ (bs2 ++ [41])))) t e z y W k n hk hn (by rw [btl_app, btl_app, btl_app, btl_app, ES.out, ES2.out, List.append_assoc, List.append_assoc, List.append_assoc]; rfl) h hz
      have P5 := Lib.hid fun (W : World) (k n : Nat) (t : Tm) (e : Nat) (z y : Int) (hk : W.heap.size = k) (hn : (⟨#[40]⟩ ++ sA ++ ⟨#[41, 40]⟩ ++ sB ++ ⟨#[41]⟩ : ByteArray).size = n) (h : parseF ([40] ++ (bs ++ ([41, 40] ++ (bs2 ++ [41])))) = (t, e, y)) (hz : (e : Int) = z) => gives_s (⟨#[40]⟩ ++ sA ++ ⟨#[41, 40]⟩ ++ sB ++ ⟨#[41]⟩) ([40] ++ (bs ++ ([41, 40] ++ (bs2 ++ [41])))) t e z y W k n hk hn (by rw [btl_app, btl_app, btl_app, btl_app, ES.out, ES2.out, List.append_assoc, List.append_assoc, List.append_assoc]; rfl) h hz
      clear ES ES2
      by_cases hDm : D = -1
      · have H3 : Hid (parseF ([40] ++ (bs ++ [41])) = (x, 0, 0)) := by show parseF ([40] ++ (bs ++ [41])) = (x, 0, 0); rw [HD.out, if_pos hDm]
        clear HD hDm
        by_cases hDA2 : DA = -1
        · have H4 : Hid (parseF ([40] ++ (bs ++ ([41, 124, 40] ++ (bs2 ++ [41])))) = (.mk 7 noB 0 0 [x, y], 0, 0)) := by show parseF _ = _; rw [HDA.out, if_pos hDA2]
          have H5 : Hid (parseF ([40] ++ (bs ++ ([41, 40] ++ (bs2 ++ [41])))) = (.mk 6 noB 0 0 [x, y], 0, 0)) := by show parseF _ = _; rw [HDE.out, if_pos (HI.out.1 hDA2)]
          clear HDA HDE HI hDA2
          go_enter Try.func6, Try.ntmps6
          go_wp2_with fail
          refine S.out.mono ?_
          rintro e w1 ⟨rfl, hb1⟩
          have B1 := Lib.hid hb1
          clear hb1 S
          go_wp2_with fail
          refine (D1.out w1 B1.out).mono ?_
          rintro e w2 ⟨d1, rfl, v1, b1⟩
          have nb1 := below_new w2 (.cells d1.cells 29)
          have bb1 := b1.trans (nb1.mono b1.size)
          have C2 : Hid (Below w.heap.size w (w2.alloc (.cells #[.int .i64 d1.op, .int .u64 (uv (d1.q 0)), .int .u64 (uv (d1.q 1)), .int .u64 (uv (d1.q 2)), .int .u64 (uv (d1.q 3)), .int .i64 d1.lo, .int .i64 d1.hi, .slice d1.A d1.n d1.c] 29))) := B1.out.trans (bb1.mono B1.out.size)
          have T2 : Hid (TB (w2.alloc (.cells #[.int .i64 d1.op, .int .u64 (uv (d1.q 0)), .int .u64 (uv (d1.q 1)), .int .u64 (uv (d1.q 2)), .int .u64 (uv (d1.q 3)), .int .i64 d1.lo, .int .i64 d1.hi, .slice d1.A d1.n d1.c] 29)) w2.heap.size d1 ∧ TR (w2.alloc (.cells #[.int .i64 d1.op, .int .u64 (uv (d1.q 0)), .int .u64 (uv (d1.q 1)), .int .u64 (uv (d1.q 2)), .int .u64 (uv (d1.q 3)), .int .i64 d1.lo, .int .i64 d1.hi, .slice d1.A d1.n d1.c] 29)) x d1) := ⟨TB.new w2 d1, v1.keeps nb1⟩
          clear v1 b1 nb1 bb1 D1 B1
          unfold TD.val
          go_wp2_with fail
          refine (D2.out _ C2.out).mono ?_
          rintro e w3 ⟨d2, rfl, v2, b2⟩
          have nb2 := below_new w3 (.cells d2.cells 29)
          have bb2 := b2.trans (nb2.mono b2.size)
          have C3 : Hid (Below w.heap.size w (w3.alloc (.cells #[.int .i64 d2.op, .int .u64 (uv (d2.q 0)), .int .u64 (uv (d2.q 1)), .int .u64 (uv (d2.q 2)), .int .u64 (uv (d2.q 3)), .int .i64 d2.lo, .int .i64 d2.hi, .slice d2.A d2.n d2.c] 29))) := C2.out.trans (bb2.mono C2.out.size)
          have T3 : Hid (TB (w3.alloc (.cells #[.int .i64 d2.op, .int .u64 (uv (d2.q 0)), .int .u64 (uv (d2.q 1)), .int .u64 (uv (d2.q 2)), .int .u64 (uv (d2.q 3)), .int .i64 d2.lo, .int .i64 d2.hi, .slice d2.A d2.n d2.c] 29)) w2.heap.size d1 ∧ TR (w3.alloc (.cells #[.int .i64 d2.op, .int .u64 (uv (d2.q 0)), .int .u64 (uv (d2.q 1)), .int .u64 (uv (d2.q 2)), .int .u64 (uv (d2.q 3)), .int .i64 d2.lo, .int .i64 d2.hi, .slice d2.A d2.n d2.c] 29)) x d1 ∧ TB (w3.alloc (.cells #[.int .i64 d2.op, .int .u64 (uv (d2.q 0)), .int .u64 (uv (d2.q 1)), .int .u64 (uv (d2.q 2)), .int .u64 (uv (d2.q 3)), .int .i64 d2.lo, .int .i64 d2.hi, .slice d2.A d2.n d2.c] 29)) w3.heap.size d2 ∧ TR (w3.alloc (.cells #[.int .i64 d2.op, .int .u64 (uv (d2.q 0)), .int .u64 (uv (d2.q 1)), .int .u64 (uv (d2.q 2)), .int .u64 (uv (d2.q 3)), .int .i64 d2.lo, .int .i64 d2.hi, .slice d2.A d2.n d2.c] 29)) y d2) := ⟨T2.out.1.below bb2, T2.out.2.keeps bb2, TB.new w3 d2, v2.keeps nb2⟩
          clear v2 b2 nb2 bb2 D2 C2 T2
          unfold TD.val
          have k3 := KA.out _ C3.out
          unfold TD.cells at C3 T3 k3
          go_wp2_with fail
          refine (P3.out _ _ _ x 0 0 0 (by simp) (by simp; rfl) H3.out rfl).mono ?_
          rintro e w4 ⟨d3, rfl, v3, b3⟩
          have nb3 := below_new w4 (.cells d3.cells 29)
          have bb3 := b3.trans (nb3.mono b3.size)
          have C4 : Hid (Below w.heap.size w (w4.alloc (.cells #[.int .i64 d3.op, .int .u64 (uv (d3.q 0)), .int .u64 (uv (d3.q 1)), .int .u64 (uv (d3.q 2)), .int .u64 (uv (d3.q 3)), .int .i64 d3.lo, .int .i64 d3.hi, .slice d3.A d3.n d3.c] 29))) := C3.out.trans (bb3.mono C3.out.size)
          have T4 : Hid (TB (w4.alloc (.cells #[.int .i64 d3.op, .int .u64 (uv (d3.q 0)), .int .u64 (uv (d3.q 1)), .int .u64 (uv (d3.q 2)), .int .u64 (uv (d3.q 3)), .int .i64 d3.lo, .int .i64 d3.hi, .slice d3.A d3.n d3.c] 29)) w2.heap.size d1 ∧ TR (w4.alloc (.cells #[.int .i64 d3.op, .int .u64 (uv (d3.q 0)), .int .u64 (uv (d3.q 1)), .int .u64 (uv (d3.q 2)), .int .u64 (uv (d3.q 3)), .int .i64 d3.lo, .int .i64 d3.hi, .slice d3.A d3.n d3.c] 29)) x d1 ∧ TB (w4.alloc (.cells #[.int .i64 d3.op, .int .u64 (uv (d3.q 0)), .int .u64 (uv (d3.q 1)), .int .u64 (uv (d3.q 2)), .int .u64 (uv (d3.q 3)), .int .i64 d3.lo, .int .i64 d3.hi, .slice d3.A d3.n d3.c] 29)) w3.heap.size d2 ∧ TR (w4.alloc (.cells #[.int .i64 d3.op, .int .u64 (uv (d3.q 0)), .int .u64 (uv (d3.q 1)), .int .u64 (uv (d3.q 2)), .int .u64 (uv (d3.q 3)), .int .i64 d3.lo, .int .i64 d3.hi, .slice d3.A d3.n d3.c] 29)) y d2 ∧ TB (w4.alloc (.cells #[.int .i64 d3.op, .int .u64 (uv (d3.q 0)), .int .u64 (uv (d3.q 1)), .int .u64 (uv (d3.q 2)), .int .u64 (uv (d3.q 3)), .int .i64 d3.lo, .int .i64 d3.hi, .slice d3.A d3.n d3.c] 29)) w4.heap.size d3 ∧ TR (w4.alloc (.cells #[.int .i64 d3.op, .int .u64 (uv (d3.q 0)), .int .u64 (uv (d3.q 1)), .int .u64 (uv (d3.q 2)), .int .u64 (uv (d3.q 3)), .int .i64 d3.lo, .int .i64 d3.hi, .slice d3.A d3.n d3.c] 29)) x d3) := ⟨T3.out.1.below bb3, T3.out.2.1.keeps bb3, T3.out.2.2.1.below bb3, T3.out.2.2.2.keeps bb3, TB.new w4 d3, v3.keeps nb3⟩
          have X4 := T3.out.1.below b3
          have lt1 := X4.lt
          obtain ⟨⟨x0, x1, x2, x3, x4, x5, x6, x7⟩, _⟩ := X4.all
          clear v3 b3 nb3 bb3 C3 T3 k3 P3 H3 X4
          have DS := same_any x x d3 d1 _ T4.out.2.2.2.2.2 T4.out.2.1
          rw [sameT_refl] at DS
          have DS := Lib.hid DS
          unfold TD.val
          unfold TD.val at DS
          go_wp2_with fail
          refine DS.out.mono ?_
          rintro e w5 ⟨rfl, b5⟩
          have C5 : Hid (Below w.heap.size w w5) := C4.out.trans (b5.mono C4.out.size)
          have T5 : Hid (TB w5 w2.heap.size d1 ∧ TR w5 x d1 ∧ TB w5 w3.heap.size d2 ∧ TR w5 y d2) := ⟨T4.out.1.below b5, T4.out.2.1.keeps b5, T4.out.2.2.1.below b5, T4.out.2.2.2.1.keeps b5⟩
          clear DS C4 T4 b5 x0 x1 x2 x3 x4 x5 x6 x7 lt1
          have k4 := KA.out _ C5.out
          have k5 := KB.out _ C5.out
          go_wp2_with fail
          refine (P4.out _ _ _ (.mk 7 noB 0 0 [x, y]) 0 0 0 rfl (by simp; rfl) H4.out rfl).mono ?_
          rintro e w6 ⟨d4, rfl, v4, b4⟩
          have nb4 := below_new w6 (.cells d4.cells 29)
          have bb4 := b4.trans (nb4.mono b4.size)
          have C6 : Hid (Below w.heap.size w (w6.alloc (.cells #[.int .i64 d4.op, .int .u64 (uv (d4.q 0)), .int .u64 (uv (d4.q 1)), .int .u64 (uv (d4.q 2)), .int .u64 (uv (d4.q 3)), .int .i64 d4.lo, .int .i64 d4.hi, .slice d4.A d4.n d4.c] 29))) := C5.out.trans (bb4.mono C5.out.size)
          have T6 : Hid (TB (w6.alloc (.cells #[.int .i64 d4.op, .int .u64 (uv (d4.q 0)), .int .u64 (uv (d4.q 1)), .int .u64 (uv (d4.q 2)), .int .u64 (uv (d4.q 3)), .int .i64 d4.lo, .int .i64 d4.hi, .slice d4.A d4.n d4.c] 29)) w2.heap.size d1 ∧ TR (w6.alloc (.cells #[.int .i64 d4.op, .int .u64 (uv (d4.q 0)), .int .u64 (uv (d4.q 1)), .int .u64 (uv (d4.q 2)), .int .u64 (uv (d4.q 3)), .int .i64 d4.lo, .int .i64 d4.hi, .slice d4.A d4.n d4.c] 29)) x d1 ∧ TB (w6.alloc (.cells #[.int .i64 d4.op, .int .u64 (uv (d4.q 0)), .int .u64 (uv (d4.q 1)), .int .u64 (uv (d4.q 2)), .int .u64 (uv (d4.q 3)), .int .i64 d4.lo, .int .i64 d4.hi, .slice d4.A d4.n d4.c] 29)) w3.heap.size d2 ∧ TR (w6.alloc (.cells #[.int .i64 d4.op, .int .u64 (uv (d4.q 0)), .int .u64 (uv (d4.q 1)), .int .u64 (uv (d4.q 2)), .int .u64 (uv (d4.q 3)), .int .i64 d4.lo, .int .i64 d4.hi, .slice d4.A d4.n d4.c] 29)) y d2 ∧ TB (w6.alloc (.cells #[.int .i64 d4.op, .int .u64 (uv (d4.q 0)), .int .u64 (uv (d4.q 1)), .int .u64 (uv (d4.q 2)), .int .u64 (uv (d4.q 3)), .int .i64 d4.lo, .int .i64 d4.hi, .slice d4.A d4.n d4.c] 29)) w6.heap.size d4 ∧ TR (w6.alloc (.cells #[.int .i64 d4.op, .int .u64 (uv (d4.q 0)), .int .u64 (uv (d4.q 1)), .int .u64 (uv (d4.q 2)), .int .u64 (uv (d4.q 3)), .int .i64 d4.lo, .int .i64 d4.hi, .slice d4.A d4.n d4.c] 29)) (.mk 7 noB 0 0 [x, y]) d4) := ⟨T5.out.1.below bb4, T5.out.2.1.keeps bb4, T5.out.2.2.1.below bb4, T5.out.2.2.2.keeps bb4, TB.new w6 d4, v4.keeps nb4⟩
          clear v4 b4 nb4 bb4 C5 T5 k4 k5 P4 H4
          have k6 := KA.out _ C6.out
          have k7 := KB.out _ C6.out
          unfold TD.val
          go_wp2_with fail
          refine (P5.out _ _ _ (.mk 6 noB 0 0 [x, y]) 0 0 0 (by simp) (by simp; rfl) H5.out rfl).mono ?_
          rintro e w7 ⟨d5, rfl, v5, b5⟩
          have nb5 := below_new w7 (.cells d5.cells 29)
          have bb5 := b5.trans (nb5.mono b5.size)
          have C7 : Hid (Below w.heap.size w (w7.alloc (.cells #[.int .i64 d5.op, .int .u64 (uv (d5.q 0)), .int .u64 (uv (d5.q 1)), .int .u64 (uv (d5.q 2)), .int .u64 (uv (d5.q 3)), .int .i64 d5.lo, .int .i64 d5.hi, .slice d5.A d5.n d5.c] 29))) := C6.out.trans (bb5.mono C6.out.size)
          have T7 : Hid (TB (w7.alloc (.cells #[.int .i64 d5.op, .int .u64 (uv (d5.q 0)), .int .u64 (uv (d5.q 1)), .int .u64 (uv (d5.q 2)), .int .u64 (uv (d5.q 3)), .int .i64 d5.lo, .int .i64 d5.hi, .slice d5.A d5.n d5.c] 29)) w2.heap.size d1 ∧ TR (w7.alloc (.cells #[.int .i64 d5.op, .int .u64 (uv (d5.q 0)), .int .u64 (uv (d5.q 1)), .int .u64 (uv (d5.q 2)), .int .u64 (uv (d5.q 3)), .int .i64 d5.lo, .int .i64 d5.hi, .slice d5.A d5.n d5.c] 29)) x d1 ∧ TB (w7.alloc (.cells #[.int .i64 d5.op, .int .u64 (uv (d5.q 0)), .int .u64 (uv (d5.q 1)), .int .u64 (uv (d5.q 2)), .int .u64 (uv (d5.q 3)), .int .i64 d5.lo, .int .i64 d5.hi, .slice d5.A d5.n d5.c] 29)) w3.heap.size d2 ∧ TR (w7.alloc (.cells #[.int .i64 d5.op, .int .u64 (uv (d5.q 0)), .int .u64 (uv (d5.q 1)), .int .u64 (uv (d5.q 2)), .int .u64 (uv (d5.q 3)), .int .i64 d5.lo, .int .i64 d5.hi, .slice d5.A d5.n d5.c] 29)) y d2 ∧ TR (w7.alloc (.cells #[.int .i64 d5.op, .int .u64 (uv (d5.q 0)), .int .u64 (uv (d5.q 1)), .int .u64 (uv (d5.q 2)), .int .u64 (uv (d5.q 3)), .int .i64 d5.lo, .int .i64 d5.hi, .slice d5.A d5.n d5.c] 29)) (.mk 7 noB 0 0 [x, y]) d4 ∧ TB (w7.alloc (.cells #[.int .i64 d5.op, .int .u64 (uv (d5.q 0)), .int .u64 (uv (d5.q 1)), .int .u64 (uv (d5.q 2)), .int .u64 (uv (d5.q 3)), .int .i64 d5.lo, .int .i64 d5.hi, .slice d5.A d5.n d5.c] 29)) w7.heap.size d5 ∧ TR (w7.alloc (.cells #[.int .i64 d5.op, .int .u64 (uv (d5.q 0)), .int .u64 (uv (d5.q 1)), .int .u64 (uv (d5.q 2)), .int .u64 (uv (d5.q 3)), .int .i64 d5.lo, .int .i64 d5.hi, .slice d5.A d5.n d5.c] 29)) (.mk 6 noB 0 0 [x, y]) d5) := ⟨T6.out.1.below bb5, T6.out.2.1.keeps bb5, T6.out.2.2.1.below bb5, T6.out.2.2.2.1.keeps bb5, T6.out.2.2.2.2.2.keeps bb5, TB.new w7 d5, v5.keeps nb5⟩
          have X7 : Hid (TB w7 w2.heap.size d1 ∧ TB w7 w3.heap.size d2 ∧ TB w7 w6.heap.size d4) := ⟨T6.out.1.below b5, T6.out.2.2.1.below b5, T6.out.2.2.2.2.1.below b5⟩
          clear v5 b5 nb5 bb5 C6 T6 k6 k7 P5 H5 KA KB
          unfold TD.val
          obtain ⟨⟨x0, x1, x2, x3, x4, x5, x6, x7⟩, _⟩ := X7.out.1.all
          obtain ⟨⟨y0, y1, y2, y3, y4, y5, y6, y7⟩, _⟩ := X7.out.2.1.all
          obtain ⟨⟨z0, z1, z2, z3, z4, z5, z6, z7⟩, _⟩ := X7.out.2.2.all
          have lt1 := X7.out.1.lt
          have lt2 := X7.out.2.1.lt
          have lt3 := X7.out.2.2.lt
          have nb8 := below_new (w7.alloc (.cells #[.int .i64 d5.op, .int .u64 (uv (d5.q 0)), .int .u64 (uv (d5.q 1)), .int .u64 (uv (d5.q 2)), .int .u64 (uv (d5.q 3)), .int .i64 d5.lo, .int .i64 d5.hi, .slice d5.A d5.n d5.c] 29)) (.cells #[.int .i64 d1.op, .int .u64 (uv (d1.q 0)), .int .u64 (uv (d1.q 1)), .int .u64 (uv (d1.q 2)), .int .u64 (uv (d1.q 3)), .int .i64 d1.lo, .int .i64 d1.hi, .slice d1.A d1.n d1.c, .int .i64 d2.op, .int .u64 (uv (d2.q 0)), .int .u64 (uv (d2.q 1)), .int .u64 (uv (d2.q 2)), .int .u64 (uv (d2.q 3)), .int .i64 d2.lo, .int .i64 d2.hi, .slice d2.A d2.n d2.c] 29)
          have R8 := two_new (w7.alloc (.cells #[.int .i64 d5.op, .int .u64 (uv (d5.q 0)), .int .u64 (uv (d5.q 1)), .int .u64 (uv (d5.q 2)), .int .u64 (uv (d5.q 3)), .int .i64 d5.lo, .int .i64 d5.hi, .slice d5.A d5.n d5.c] 29)) 7 x y d1 d2 T7.out.2.1 T7.out.2.2.2.1
          rw [World.size_alloc] at R8
          have DS := same_any _ _ d4 _ _ (T7.out.2.2.2.2.1.keeps nb8) R8
          rw [sameT_refl] at DS
          unfold TD.val at DS
          have DS := Lib.hid DS
          have C8 : Hid (Below w.heap.size w ((w7.alloc (.cells #[.int .i64 d5.op, .int .u64 (uv (d5.q 0)), .int .u64 (uv (d5.q 1)), .int .u64 (uv (d5.q 2)), .int .u64 (uv (d5.q 3)), .int .i64 d5.lo, .int .i64 d5.hi, .slice d5.A d5.n d5.c] 29)).alloc (.cells #[.int .i64 d1.op, .int .u64 (uv (d1.q 0)), .int .u64 (uv (d1.q 1)), .int .u64 (uv (d1.q 2)), .int .u64 (uv (d1.q 3)), .int .i64 d1.lo, .int .i64 d1.hi, .slice d1.A d1.n d1.c, .int .i64 d2.op, .int .u64 (uv (d2.q 0)), .int .u64 (uv (d2.q 1)), .int .u64 (uv (d2.q 2)), .int .u64 (uv (d2.q 3)), .int .i64 d2.lo, .int .i64 d2.hi, .slice d2.A d2.n d2.c] 29))) := C7.out.trans (nb8.mono C7.out.size)
          have T8 : Hid (TB ((w7.alloc (.cells #[.int .i64 d5.op, .int .u64 (uv (d5.q 0)), .int .u64 (uv (d5.q 1)), .int .u64 (uv (d5.q 2)), .int .u64 (uv (d5.q 3)), .int .i64 d5.lo, .int .i64 d5.hi, .slice d5.A d5.n d5.c] 29)).alloc (.cells #[.int .i64 d1.op, .int .u64 (uv (d1.q 0)), .int .u64 (uv (d1.q 1)), .int .u64 (uv (d1.q 2)), .int .u64 (uv (d1.q 3)), .int .i64 d1.lo, .int .i64 d1.hi, .slice d1.A d1.n d1.c, .int .i64 d2.op, .int .u64 (uv (d2.q 0)), .int .u64 (uv (d2.q 1)), .int .u64 (uv (d2.q 2)), .int .u64 (uv (d2.q 3)), .int .i64 d2.lo, .int .i64 d2.hi, .slice d2.A d2.n d2.c] 29)) w2.heap.size d1 ∧ TR ((w7.alloc (.cells #[.int .i64 d5.op, .int .u64 (uv (d5.q 0)), .int .u64 (uv (d5.q 1)), .int .u64 (uv (d5.q 2)), .int .u64 (uv (d5.q 3)), .int .i64 d5.lo, .int .i64 d5.hi, .slice d5.A d5.n d5.c] 29)).alloc (.cells #[.int .i64 d1.op, .int .u64 (uv (d1.q 0)), .int .u64 (uv (d1.q 1)), .int .u64 (uv (d1.q 2)), .int .u64 (uv (d1.q 3)), .int .i64 d1.lo, .int .i64 d1.hi, .slice d1.A d1.n d1.c, .int .i64 d2.op, .int .u64 (uv (d2.q 0)), .int .u64 (uv (d2.q 1)), .int .u64 (uv (d2.q 2)), .int .u64 (uv (d2.q 3)), .int .i64 d2.lo, .int .i64 d2.hi, .slice d2.A d2.n d2.c] 29)) x d1 ∧ TB ((w7.alloc (.cells #[.int .i64 d5.op, .int .u64 (uv (d5.q 0)), .int .u64 (uv (d5.q 1)), .int .u64 (uv (d5.q 2)), .int .u64 (uv (d5.q 3)), .int .i64 d5.lo, .int .i64 d5.hi, .slice d5.A d5.n d5.c] 29)).alloc (.cells #[.int .i64 d1.op, .int .u64 (uv (d1.q 0)), .int .u64 (uv (d1.q 1)), .int .u64 (uv (d1.q 2)), .int .u64 (uv (d1.q 3)), .int .i64 d1.lo, .int .i64 d1.hi, .slice d1.A d1.n d1.c, .int .i64 d2.op, .int .u64 (uv (d2.q 0)), .int .u64 (uv (d2.q 1)), .int .u64 (uv (d2.q 2)), .int .u64 (uv (d2.q 3)), .int .i64 d2.lo, .int .i64 d2.hi, .slice d2.A d2.n d2.c] 29)) w3.heap.size d2 ∧ TR ((w7.alloc (.cells #[.int .i64 d5.op, .int .u64 (uv (d5.q 0)), .int .u64 (uv (d5.q 1)), .int .u64 (uv (d5.q 2)), .int .u64 (uv (d5.q 3)), .int .i64 d5.lo, .int .i64 d5.hi, .slice d5.A d5.n d5.c] 29)).alloc (.cells #[.int .i64 d1.op, .int .u64 (uv (d1.q 0)), .int .u64 (uv (d1.q 1)), .int .u64 (uv (d1.q 2)), .int .u64 (uv (d1.q 3)), .int .i64 d1.lo, .int .i64 d1.hi, .slice d1.A d1.n d1.c, .int .i64 d2.op, .int .u64 (uv (d2.q 0)), .int .u64 (uv (d2.q 1)), .int .u64 (uv (d2.q 2)), .int .u64 (uv (d2.q 3)), .int .i64 d2.lo, .int .i64 d2.hi, .slice d2.A d2.n d2.c] 29)) y d2 ∧ TB ((w7.alloc (.cells #[.int .i64 d5.op, .int .u64 (uv (d5.q 0)), .int .u64 (uv (d5.q 1)), .int .u64 (uv (d5.q 2)), .int .u64 (uv (d5.q 3)), .int .i64 d5.lo, .int .i64 d5.hi, .slice d5.A d5.n d5.c] 29)).alloc (.cells #[.int .i64 d1.op, .int .u64 (uv (d1.q 0)), .int .u64 (uv (d1.q 1)), .int .u64 (uv (d1.q 2)), .int .u64 (uv (d1.q 3)), .int .i64 d1.lo, .int .i64 d1.hi, .slice d1.A d1.n d1.c, .int .i64 d2.op, .int .u64 (uv (d2.q 0)), .int .u64 (uv (d2.q 1)), .int .u64 (uv (d2.q 2)), .int .u64 (uv (d2.q 3)), .int .i64 d2.lo, .int .i64 d2.hi, .slice d2.A d2.n d2.c] 29)) w7.heap.size d5 ∧ TR ((w7.alloc (.cells #[.int .i64 d5.op, .int .u64 (uv (d5.q 0)), .int .u64 (uv (d5.q 1)), .int .u64 (uv (d5.q 2)), .int .u64 (uv (d5.q 3)), .int .i64 d5.lo, .int .i64 d5.hi, .slice d5.A d5.n d5.c] 29)).alloc (.cells #[.int .i64 d1.op, .int .u64 (uv (d1.q 0)), .int .u64 (uv (d1.q 1)), .int .u64 (uv (d1.q 2)), .int .u64 (uv (d1.q 3)), .int .i64 d1.lo, .int .i64 d1.hi, .slice d1.A d1.n d1.c, .int .i64 d2.op, .int .u64 (uv (d2.q 0)), .int .u64 (uv (d2.q 1)), .int .u64 (uv (d2.q 2)), .int .u64 (uv (d2.q 3)), .int .i64 d2.lo, .int .i64 d2.hi, .slice d2.A d2.n d2.c] 29)) (.mk 6 noB 0 0 [x, y]) d5) := ⟨T7.out.1.below nb8, T7.out.2.1.keeps nb8, T7.out.2.2.1.below nb8, T7.out.2.2.2.1.keeps nb8, T7.out.2.2.2.2.2.1.below nb8, T7.out.2.2.2.2.2.2.keeps nb8⟩
          clear nb8 R8 C7 T7 X7
          go_wp2_with fail
          refine DS.out.mono ?_
          rintro e w8 ⟨rfl, b8⟩
          have C9 : Hid (Below w.heap.size w w8) := C8.out.trans (b8.mono C8.out.size)
          have T9 : Hid (TB w8 w2.heap.size d1 ∧ TR w8 x d1 ∧ TB w8 w3.heap.size d2 ∧ TR w8 y d2 ∧ TB w8 w7.heap.size d5 ∧ TR w8 (.mk 6 noB 0 0 [x, y]) d5) := ⟨T8.out.1.below b8, T8.out.2.1.keeps b8, T8.out.2.2.1.below b8, T8.out.2.2.2.1.keeps b8, T8.out.2.2.2.2.1.below b8, T8.out.2.2.2.2.2.keeps b8⟩
          clear DS C8 T8 b8 x0 x1 x2 x3 x4 x5 x6 x7 y0 y1 y2 y3 y4 y5 y6 y7 z0 z1 z2 z3 z4 z5 z6 z7 lt1 lt2 lt3
          obtain ⟨⟨x0, x1, x2, x3, x4, x5, x6, x7⟩, _⟩ := T9.out.1.all
          obtain ⟨⟨y0, y1, y2, y3, y4, y5, y6, y7⟩, _⟩ := T9.out.2.2.1.all
          obtain ⟨⟨z0, z1, z2, z3, z4, z5, z6, z7⟩, _⟩ := T9.out.2.2.2.2.1.all
          have nb9 := below_new w8 (.cells #[.int .i64 d1.op, .int .u64 (uv (d1.q 0)), .int .u64 (uv (d1.q 1)), .int .u64 (uv (d1.q 2)), .int .u64 (uv (d1.q 3)), .int .i64 d1.lo, .int .i64 d1.hi, .slice d1.A d1.n d1.c, .int .i64 d2.op, .int .u64 (uv (d2.q 0)), .int .u64 (uv (d2.q 1)), .int .u64 (uv (d2.q 2)), .int .u64 (uv (d2.q 3)), .int .i64 d2.lo, .int .i64 d2.hi, .slice d2.A d2.n d2.c] 29)
          have R9 := two_new w8 6 x y d1 d2 T9.out.2.1 T9.out.2.2.2.1
          have DS := same_any _ _ d5 _ _ (T9.out.2.2.2.2.2.keeps nb9) R9
          rw [sameT_refl] at DS
          unfold TD.val at DS
          have DS := Lib.hid DS
          have C10 : Hid (Below w.heap.size w (w8.alloc (.cells #[.int .i64 d1.op, .int .u64 (uv (d1.q 0)), .int .u64 (uv (d1.q 1)), .int .u64 (uv (d1.q 2)), .int .u64 (uv (d1.q 3)), .int .i64 d1.lo, .int .i64 d1.hi, .slice d1.A d1.n d1.c, .int .i64 d2.op, .int .u64 (uv (d2.q 0)), .int .u64 (uv (d2.q 1)), .int .u64 (uv (d2.q 2)), .int .u64 (uv (d2.q 3)), .int .i64 d2.lo, .int .i64 d2.hi, .slice d2.A d2.n d2.c] 29))) := C9.out.trans (nb9.mono C9.out.size)
          clear nb9 R9 C9 T9
          go_wp2_with fail
          refine DS.out.mono ?_
          rintro e w9 ⟨rfl, b9⟩
          have C11 : Hid (Below w.heap.size w w9) := C10.out.trans (b9.mono C10.out.size)
          clear DS C10 b9
          go_wp2
          go_ret
          exact ⟨rfl, C11.out⟩
        · have H4 : Hid (parseF ([40] ++ (bs ++ ([41, 124, 40] ++ (bs2 ++ [41])))) = (zTm, 52, DA)) := by show parseF _ = _; rw [HDA.out, if_neg hDA2]
          have H5 : Hid (parseF ([40] ++ (bs ++ ([41, 40] ++ (bs2 ++ [41])))) = (zTm, 52, DE)) := by show parseF _ = _; rw [HDE.out, if_neg (fun e => hDA2 (HI.out.2 e))]
          clear HDA HDE HI hDA2
          go_enter Try.func6, Try.ntmps6
          go_wp2_with fail
          refine S.out.mono ?_
          rintro e w1 ⟨rfl, hb1⟩
          have B1 := Lib.hid hb1
          clear hb1 S
          go_wp2_with fail
          refine (D1.out w1 B1.out).mono ?_
          rintro e w2 ⟨d1, rfl, v1, b1⟩
          have nb1 := below_new w2 (.cells d1.cells 29)
          have bb1 := b1.trans (nb1.mono b1.size)
          have C2 : Hid (Below w.heap.size w (w2.alloc (.cells #[.int .i64 d1.op, .int .u64 (uv (d1.q 0)), .int .u64 (uv (d1.q 1)), .int .u64 (uv (d1.q 2)), .int .u64 (uv (d1.q 3)), .int .i64 d1.lo, .int .i64 d1.hi, .slice d1.A d1.n d1.c] 29))) := B1.out.trans (bb1.mono B1.out.size)
          have T2 : Hid (TB (w2.alloc (.cells #[.int .i64 d1.op, .int .u64 (uv (d1.q 0)), .int .u64 (uv (d1.q 1)), .int .u64 (uv (d1.q 2)), .int .u64 (uv (d1.q 3)), .int .i64 d1.lo, .int .i64 d1.hi, .slice d1.A d1.n d1.c] 29)) w2.heap.size d1 ∧ TR (w2.alloc (.cells #[.int .i64 d1.op, .int .u64 (uv (d1.q 0)), .int .u64 (uv (d1.q 1)), .int .u64 (uv (d1.q 2)), .int .u64 (uv (d1.q 3)), .int .i64 d1.lo, .int .i64 d1.hi, .slice d1.A d1.n d1.c] 29)) x d1) := ⟨TB.new w2 d1, v1.keeps nb1⟩
          clear v1 b1 nb1 bb1 D1 B1
          unfold TD.val
          go_wp2_with fail
          refine (D2.out _ C2.out).mono ?_
          rintro e w3 ⟨d2, rfl, v2, b2⟩
          have nb2 := below_new w3 (.cells d2.cells 29)
          have bb2 := b2.trans (nb2.mono b2.size)
          have C3 : Hid (Below w.heap.size w (w3.alloc (.cells #[.int .i64 d2.op, .int .u64 (uv (d2.q 0)), .int .u64 (uv (d2.q 1)), .int .u64 (uv (d2.q 2)), .int .u64 (uv (d2.q 3)), .int .i64 d2.lo, .int .i64 d2.hi, .slice d2.A d2.n d2.c] 29))) := C2.out.trans (bb2.mono C2.out.size)
          have T3 : Hid (TB (w3.alloc (.cells #[.int .i64 d2.op, .int .u64 (uv (d2.q 0)), .int .u64 (uv (d2.q 1)), .int .u64 (uv (d2.q 2)), .int .u64 (uv (d2.q 3)), .int .i64 d2.lo, .int .i64 d2.hi, .slice d2.A d2.n d2.c] 29)) w2.heap.size d1 ∧ TR (w3.alloc (.cells #[.int .i64 d2.op, .int .u64 (uv (d2.q 0)), .int .u64 (uv (d2.q 1)), .int .u64 (uv (d2.q 2)), .int .u64 (uv (d2.q 3)), .int .i64 d2.lo, .int .i64 d2.hi, .slice d2.A d2.n d2.c] 29)) x d1 ∧ TB (w3.alloc (.cells #[.int .i64 d2.op, .int .u64 (uv (d2.q 0)), .int .u64 (uv (d2.q 1)), .int .u64 (uv (d2.q 2)), .int .u64 (uv (d2.q 3)), .int .i64 d2.lo, .int .i64 d2.hi, .slice d2.A d2.n d2.c] 29)) w3.heap.size d2 ∧ TR (w3.alloc (.cells #[.int .i64 d2.op, .int .u64 (uv (d2.q 0)), .int .u64 (uv (d2.q 1)), .int .u64 (uv (d2.q 2)), .int .u64 (uv (d2.q 3)), .int .i64 d2.lo, .int .i64 d2.hi, .slice d2.A d2.n d2.c] 29)) y d2) := ⟨T2.out.1.below bb2, T2.out.2.keeps bb2, TB.new w3 d2, v2.keeps nb2⟩
          clear v2 b2 nb2 bb2 D2 C2 T2
          unfold TD.val
          have k3 := KA.out _ C3.out
          unfold TD.cells at C3 T3 k3
          go_wp2_with fail
          refine (P3.out _ _ _ x 0 0 0 (by simp) (by simp; rfl) H3.out rfl).mono ?_
          rintro e w4 ⟨d3, rfl, v3, b3⟩
          have nb3 := below_new w4 (.cells d3.cells 29)
          have bb3 := b3.trans (nb3.mono b3.size)
          have C4 : Hid (Below w.heap.size w (w4.alloc (.cells #[.int .i64 d3.op, .int .u64 (uv (d3.q 0)), .int .u64 (uv (d3.q 1)), .int .u64 (uv (d3.q 2)), .int .u64 (uv (d3.q 3)), .int .i64 d3.lo, .int .i64 d3.hi, .slice d3.A d3.n d3.c] 29))) := C3.out.trans (bb3.mono C3.out.size)
          have T4 : Hid (TB (w4.alloc (.cells #[.int .i64 d3.op, .int .u64 (uv (d3.q 0)), .int .u64 (uv (d3.q 1)), .int .u64 (uv (d3.q 2)), .int .u64 (uv (d3.q 3)), .int .i64 d3.lo, .int .i64 d3.hi, .slice d3.A d3.n d3.c] 29)) w2.heap.size d1 ∧ TR (w4.alloc (.cells #[.int .i64 d3.op, .int .u64 (uv (d3.q 0)), .int .u64 (uv (d3.q 1)), .int .u64 (uv (d3.q 2)), .int .u64 (uv (d3.q 3)), .int .i64 d3.lo, .int .i64 d3.hi, .slice d3.A d3.n d3.c] 29)) x d1 ∧ TB (w4.alloc (.cells #[.int .i64 d3.op, .int .u64 (uv (d3.q 0)), .int .u64 (uv (d3.q 1)), .int .u64 (uv (d3.q 2)), .int .u64 (uv (d3.q 3)), .int .i64 d3.lo, .int .i64 d3.hi, .slice d3.A d3.n d3.c] 29)) w3.heap.size d2 ∧ TR (w4.alloc (.cells #[.int .i64 d3.op, .int .u64 (uv (d3.q 0)), .int .u64 (uv (d3.q 1)), .int .u64 (uv (d3.q 2)), .int .u64 (uv (d3.q 3)), .int .i64 d3.lo, .int .i64 d3.hi, .slice d3.A d3.n d3.c] 29)) y d2 ∧ TB (w4.alloc (.cells #[.int .i64 d3.op, .int .u64 (uv (d3.q 0)), .int .u64 (uv (d3.q 1)), .int .u64 (uv (d3.q 2)), .int .u64 (uv (d3.q 3)), .int .i64 d3.lo, .int .i64 d3.hi, .slice d3.A d3.n d3.c] 29)) w4.heap.size d3 ∧ TR (w4.alloc (.cells #[.int .i64 d3.op, .int .u64 (uv (d3.q 0)), .int .u64 (uv (d3.q 1)), .int .u64 (uv (d3.q 2)), .int .u64 (uv (d3.q 3)), .int .i64 d3.lo, .int .i64 d3.hi, .slice d3.A d3.n d3.c] 29)) x d3) := ⟨T3.out.1.below bb3, T3.out.2.1.keeps bb3, T3.out.2.2.1.below bb3, T3.out.2.2.2.keeps bb3, TB.new w4 d3, v3.keeps nb3⟩
          have X4 := T3.out.1.below b3
          have lt1 := X4.lt
          obtain ⟨⟨x0, x1, x2, x3, x4, x5, x6, x7⟩, _⟩ := X4.all
          clear v3 b3 nb3 bb3 C3 T3 k3 P3 H3 X4
          have DS := same_any x x d3 d1 _ T4.out.2.2.2.2.2 T4.out.2.1
          rw [sameT_refl] at DS
          have DS := Lib.hid DS
          unfold TD.val
          unfold TD.val at DS
          go_wp2_with fail
          refine DS.out.mono ?_
          rintro e w5 ⟨rfl, b5⟩
          have C5 : Hid (Below w.heap.size w w5) := C4.out.trans (b5.mono C4.out.size)
          have T5 : Hid (TB w5 w2.heap.size d1 ∧ TR w5 x d1 ∧ TB w5 w3.heap.size d2 ∧ TR w5 y d2) := ⟨T4.out.1.below b5, T4.out.2.1.keeps b5, T4.out.2.2.1.below b5, T4.out.2.2.2.1.keeps b5⟩
          clear DS C4 T4 b5 x0 x1 x2 x3 x4 x5 x6 x7 lt1
          have k4 := KA.out _ C5.out
          have k5 := KB.out _ C5.out
          go_wp2_with fail
          refine (P4.out _ _ _ zTm 52 52 DA rfl (by simp; rfl) H4.out rfl).mono ?_
          rintro e w6 ⟨d4, rfl, v4, b4⟩
          have nb4 := below_new w6 (.cells d4.cells 29)
          have bb4 := b4.trans (nb4.mono b4.size)
          have C6 : Hid (Below w.heap.size w (w6.alloc (.cells #[.int .i64 d4.op, .int .u64 (uv (d4.q 0)), .int .u64 (uv (d4.q 1)), .int .u64 (uv (d4.q 2)), .int .u64 (uv (d4.q 3)), .int .i64 d4.lo, .int .i64 d4.hi, .slice d4.A d4.n d4.c] 29))) := C5.out.trans (bb4.mono C5.out.size)
          have T6 : Hid (TB (w6.alloc (.cells #[.int .i64 d4.op, .int .u64 (uv (d4.q 0)), .int .u64 (uv (d4.q 1)), .int .u64 (uv (d4.q 2)), .int .u64 (uv (d4.q 3)), .int .i64 d4.lo, .int .i64 d4.hi, .slice d4.A d4.n d4.c] 29)) w2.heap.size d1 ∧ TR (w6.alloc (.cells #[.int .i64 d4.op, .int .u64 (uv (d4.q 0)), .int .u64 (uv (d4.q 1)), .int .u64 (uv (d4.q 2)), .int .u64 (uv (d4.q 3)), .int .i64 d4.lo, .int .i64 d4.hi, .slice d4.A d4.n d4.c] 29)) x d1 ∧ TB (w6.alloc (.cells #[.int .i64 d4.op, .int .u64 (uv (d4.q 0)), .int .u64 (uv (d4.q 1)), .int .u64 (uv (d4.q 2)), .int .u64 (uv (d4.q 3)), .int .i64 d4.lo, .int .i64 d4.hi, .slice d4.A d4.n d4.c] 29)) w3.heap.size d2 ∧ TR (w6.alloc (.cells #[.int .i64 d4.op, .int .u64 (uv (d4.q 0)), .int .u64 (uv (d4.q 1)), .int .u64 (uv (d4.q 2)), .int .u64 (uv (d4.q 3)), .int .i64 d4.lo, .int .i64 d4.hi, .slice d4.A d4.n d4.c] 29)) y d2 ∧ TB (w6.alloc (.cells #[.int .i64 d4.op, .int .u64 (uv (d4.q 0)), .int .u64 (uv (d4.q 1)), .int .u64 (uv (d4.q 2)), .int .u64 (uv (d4.q 3)), .int .i64 d4.lo, .int .i64 d4.hi, .slice d4.A d4.n d4.c] 29)) w6.heap.size d4 ∧ TR (w6.alloc (.cells #[.int .i64 d4.op, .int .u64 (uv (d4.q 0)), .int .u64 (uv (d4.q 1)), .int .u64 (uv (d4.q 2)), .int .u64 (uv (d4.q 3)), .int .i64 d4.lo, .int .i64 d4.hi, .slice d4.A d4.n d4.c] 29)) zTm d4) := ⟨T5.out.1.below bb4, T5.out.2.1.keeps bb4, T5.out.2.2.1.below bb4, T5.out.2.2.2.keeps bb4, TB.new w6 d4, v4.keeps nb4⟩
          clear v4 b4 nb4 bb4 C5 T5 k4 k5 P4 H4
          have k6 := KA.out _ C6.out
          have k7 := KB.out _ C6.out
          unfold TD.val
          go_wp2_with fail
          refine (P5.out _ _ _ zTm 52 52 DE (by simp) (by simp; rfl) H5.out rfl).mono ?_
          rintro e w7 ⟨d5, rfl, v5, b5⟩
          have nb5 := below_new w7 (.cells d5.cells 29)
          have bb5 := b5.trans (nb5.mono b5.size)
          have C7 : Hid (Below w.heap.size w (w7.alloc (.cells #[.int .i64 d5.op, .int .u64 (uv (d5.q 0)), .int .u64 (uv (d5.q 1)), .int .u64 (uv (d5.q 2)), .int .u64 (uv (d5.q 3)), .int .i64 d5.lo, .int .i64 d5.hi, .slice d5.A d5.n d5.c] 29))) := C6.out.trans (bb5.mono C6.out.size)
          have T7 : Hid (TB (w7.alloc (.cells #[.int .i64 d5.op, .int .u64 (uv (d5.q 0)), .int .u64 (uv (d5.q 1)), .int .u64 (uv (d5.q 2)), .int .u64 (uv (d5.q 3)), .int .i64 d5.lo, .int .i64 d5.hi, .slice d5.A d5.n d5.c] 29)) w2.heap.size d1 ∧ TR (w7.alloc (.cells #[.int .i64 d5.op, .int .u64 (uv (d5.q 0)), .int .u64 (uv (d5.q 1)), .int .u64 (uv (d5.q 2)), .int .u64 (uv (d5.q 3)), .int .i64 d5.lo, .int .i64 d5.hi, .slice d5.A d5.n d5.c] 29)) x d1 ∧ TB (w7.alloc (.cells #[.int .i64 d5.op, .int .u64 (uv (d5.q 0)), .int .u64 (uv (d5.q 1)), .int .u64 (uv (d5.q 2)), .int .u64 (uv (d5.q 3)), .int .i64 d5.lo, .int .i64 d5.hi, .slice d5.A d5.n d5.c] 29)) w3.heap.size d2 ∧ TR (w7.alloc (.cells #[.int .i64 d5.op, .int .u64 (uv (d5.q 0)), .int .u64 (uv (d5.q 1)), .int .u64 (uv (d5.q 2)), .int .u64 (uv (d5.q 3)), .int .i64 d5.lo, .int .i64 d5.hi, .slice d5.A d5.n d5.c] 29)) y d2 ∧ TR (w7.alloc (.cells #[.int .i64 d5.op, .int .u64 (uv (d5.q 0)), .int .u64 (uv (d5.q 1)), .int .u64 (uv (d5.q 2)), .int .u64 (uv (d5.q 3)), .int .i64 d5.lo, .int .i64 d5.hi, .slice d5.A d5.n d5.c] 29)) zTm d4 ∧ TB (w7.alloc (.cells #[.int .i64 d5.op, .int .u64 (uv (d5.q 0)), .int .u64 (uv (d5.q 1)), .int .u64 (uv (d5.q 2)), .int .u64 (uv (d5.q 3)), .int .i64 d5.lo, .int .i64 d5.hi, .slice d5.A d5.n d5.c] 29)) w7.heap.size d5 ∧ TR (w7.alloc (.cells #[.int .i64 d5.op, .int .u64 (uv (d5.q 0)), .int .u64 (uv (d5.q 1)), .int .u64 (uv (d5.q 2)), .int .u64 (uv (d5.q 3)), .int .i64 d5.lo, .int .i64 d5.hi, .slice d5.A d5.n d5.c] 29)) zTm d5) := ⟨T6.out.1.below bb5, T6.out.2.1.keeps bb5, T6.out.2.2.1.below bb5, T6.out.2.2.2.1.keeps bb5, T6.out.2.2.2.2.2.keeps bb5, TB.new w7 d5, v5.keeps nb5⟩
          have X7 : Hid (TB w7 w2.heap.size d1 ∧ TB w7 w3.heap.size d2 ∧ TB w7 w6.heap.size d4) := ⟨T6.out.1.below b5, T6.out.2.2.1.below b5, T6.out.2.2.2.2.1.below b5⟩
          clear v5 b5 nb5 bb5 C6 T6 k6 k7 P5 H5 KA KB
          unfold TD.val
          go_wp2
          go_ret
          exact ⟨rfl, C7.out⟩
      · have H3 : Hid (parseF ([40] ++ (bs ++ [41])) = (zTm, 52, D)) := by show parseF ([40] ++ (bs ++ [41])) = _; rw [HD.out, if_neg hDm]
        clear HD hDm HDA HDE HI P4 P5
        go_enter Try.func6, Try.ntmps6
        go_wp2_with fail
        refine S.out.mono ?_
        rintro e w1 ⟨rfl, hb1⟩
        have B1 := Lib.hid hb1
        clear hb1 S
        go_wp2_with fail
        refine (D1.out w1 B1.out).mono ?_
        rintro e w2 ⟨d1, rfl, v1, b1⟩
        have nb1 := below_new w2 (.cells d1.cells 29)
        have bb1 := b1.trans (nb1.mono b1.size)
        have C2 : Hid (Below w.heap.size w (w2.alloc (.cells #[.int .i64 d1.op, .int .u64 (uv (d1.q 0)), .int .u64 (uv (d1.q 1)), .int .u64 (uv (d1.q 2)), .int .u64 (uv (d1.q 3)), .int .i64 d1.lo, .int .i64 d1.hi, .slice d1.A d1.n d1.c] 29))) := B1.out.trans (bb1.mono B1.out.size)
        have T2 : Hid (TB (w2.alloc (.cells #[.int .i64 d1.op, .int .u64 (uv (d1.q 0)), .int .u64 (uv (d1.q 1)), .int .u64 (uv (d1.q 2)), .int .u64 (uv (d1.q 3)), .int .i64 d1.lo, .int .i64 d1.hi, .slice d1.A d1.n d1.c] 29)) w2.heap.size d1 ∧ TR (w2.alloc (.cells #[.int .i64 d1.op, .int .u64 (uv (d1.q 0)), .int .u64 (uv (d1.q 1)), .int .u64 (uv (d1.q 2)), .int .u64 (uv (d1.q 3)), .int .i64 d1.lo, .int .i64 d1.hi, .slice d1.A d1.n d1.c] 29)) x d1) := ⟨TB.new w2 d1, v1.keeps nb1⟩
        clear v1 b1 nb1 bb1 D1 B1
        unfold TD.val
        go_wp2_with fail
        refine (D2.out _ C2.out).mono ?_
        rintro e w3 ⟨d2, rfl, v2, b2⟩
        have nb2 := below_new w3 (.cells d2.cells 29)
        have bb2 := b2.trans (nb2.mono b2.size)
        have C3 : Hid (Below w.heap.size w (w3.alloc (.cells #[.int .i64 d2.op, .int .u64 (uv (d2.q 0)), .int .u64 (uv (d2.q 1)), .int .u64 (uv (d2.q 2)), .int .u64 (uv (d2.q 3)), .int .i64 d2.lo, .int .i64 d2.hi, .slice d2.A d2.n d2.c] 29))) := C2.out.trans (bb2.mono C2.out.size)
        have T3 : Hid (TB (w3.alloc (.cells #[.int .i64 d2.op, .int .u64 (uv (d2.q 0)), .int .u64 (uv (d2.q 1)), .int .u64 (uv (d2.q 2)), .int .u64 (uv (d2.q 3)), .int .i64 d2.lo, .int .i64 d2.hi, .slice d2.A d2.n d2.c] 29)) w2.heap.size d1 ∧ TR (w3.alloc (.cells #[.int .i64 d2.op, .int .u64 (uv (d2.q 0)), .int .u64 (uv (d2.q 1)), .int .u64 (uv (d2.q 2)), .int .u64 (uv (d2.q 3)), .int .i64 d2.lo, .int .i64 d2.hi, .slice d2.A d2.n d2.c] 29)) x d1 ∧ TB (w3.alloc (.cells #[.int .i64 d2.op, .int .u64 (uv (d2.q 0)), .int .u64 (uv (d2.q 1)), .int .u64 (uv (d2.q 2)), .int .u64 (uv (d2.q 3)), .int .i64 d2.lo, .int .i64 d2.hi, .slice d2.A d2.n d2.c] 29)) w3.heap.size d2 ∧ TR (w3.alloc (.cells #[.int .i64 d2.op, .int .u64 (uv (d2.q 0)), .int .u64 (uv (d2.q 1)), .int .u64 (uv (d2.q 2)), .int .u64 (uv (d2.q 3)), .int .i64 d2.lo, .int .i64 d2.hi, .slice d2.A d2.n d2.c] 29)) y d2) := ⟨T2.out.1.below bb2, T2.out.2.keeps bb2, TB.new w3 d2, v2.keeps nb2⟩
        clear v2 b2 nb2 bb2 D2 C2 T2
        unfold TD.val
        have k3 := KA.out _ C3.out
        unfold TD.cells at C3 T3
        go_wp2_with fail
        refine (P3.out _ _ _ zTm 52 52 D (by simp) (by simp; rfl) H3.out rfl).mono ?_
        rintro e w4 ⟨d3, rfl, v3, b3⟩
        have C4 : Hid (Below w.heap.size w (w4.alloc (.cells d3.cells 29))) := (C3.out.trans (b3.mono C3.out.size)).alloc (Nat.le_trans C3.out.size b3.size) _
        clear v3 b3 C3 T3 k3 P3
        unfold TD.val
        go_wp2
        go_ret
        exact ⟨rfl, C4.out⟩
    · have q4 : (zb != 0) = true := by rw [bne_iff_ne]; exact heb
      subst hea
      clear hx hx2 hpa hpb hza hzb heb h150
      go_enter Try.func6, Try.ntmps6
      go_wp2_with fail
      refine S.out.mono ?_
      rintro e w1 ⟨rfl, hb1⟩
      have B1 := Lib.hid hb1
      clear hb1 S
      go_wp2_with fail
      refine (D1.out w1 B1.out).mono ?_
      rintro e w2 ⟨d1, rfl, v1, b1⟩
      have nb1 := below_new w2 (.cells d1.cells 29)
      have bb1 := b1.trans (nb1.mono b1.size)
      have C2 : Hid (Below w.heap.size w (w2.alloc (.cells #[.int .i64 d1.op, .int .u64 (uv (d1.q 0)), .int .u64 (uv (d1.q 1)), .int .u64 (uv (d1.q 2)), .int .u64 (uv (d1.q 3)), .int .i64 d1.lo, .int .i64 d1.hi, .slice d1.A d1.n d1.c] 29))) := B1.out.trans (bb1.mono B1.out.size)
      have T2 : Hid (TB (w2.alloc (.cells #[.int .i64 d1.op, .int .u64 (uv (d1.q 0)), .int .u64 (uv (d1.q 1)), .int .u64 (uv (d1.q 2)), .int .u64 (uv (d1.q 3)), .int .i64 d1.lo, .int .i64 d1.hi, .slice d1.A d1.n d1.c] 29)) w2.heap.size d1 ∧ TR (w2.alloc (.cells #[.int .i64 d1.op, .int .u64 (uv (d1.q 0)), .int .u64 (uv (d1.q 1)), .int .u64 (uv (d1.q 2)), .int .u64 (uv (d1.q 3)), .int .i64 d1.lo, .int .i64 d1.hi, .slice d1.A d1.n d1.c] 29)) x d1) := ⟨TB.new w2 d1, v1.keeps nb1⟩
      clear v1 b1 nb1 bb1 D1 B1
      unfold TD.val
      go_wp2_with fail
      refine (D2.out _ C2.out).mono ?_
      rintro e w3 ⟨d2, rfl, v2, b2⟩
      have nb2 := below_new w3 (.cells d2.cells 29)
      have bb2 := b2.trans (nb2.mono b2.size)
      have C3 : Hid (Below w.heap.size w (w3.alloc (.cells #[.int .i64 d2.op, .int .u64 (uv (d2.q 0)), .int .u64 (uv (d2.q 1)), .int .u64 (uv (d2.q 2)), .int .u64 (uv (d2.q 3)), .int .i64 d2.lo, .int .i64 d2.hi, .slice d2.A d2.n d2.c] 29))) := C2.out.trans (bb2.mono C2.out.size)
      have T3 : Hid (TB (w3.alloc (.cells #[.int .i64 d2.op, .int .u64 (uv (d2.q 0)), .int .u64 (uv (d2.q 1)), .int .u64 (uv (d2.q 2)), .int .u64 (uv (d2.q 3)), .int .i64 d2.lo, .int .i64 d2.hi, .slice d2.A d2.n d2.c] 29)) w2.heap.size d1 ∧ TR (w3.alloc (.cells #[.int .i64 d2.op, .int .u64 (uv (d2.q 0)), .int .u64 (uv (d2.q 1)), .int .u64 (uv (d2.q 2)), .int .u64 (uv (d2.q 3)), .int .i64 d2.lo, .int .i64 d2.hi, .slice d2.A d2.n d2.c] 29)) x d1 ∧ TB (w3.alloc (.cells #[.int .i64 d2.op, .int .u64 (uv (d2.q 0)), .int .u64 (uv (d2.q 1)), .int .u64 (uv (d2.q 2)), .int .u64 (uv (d2.q 3)), .int .i64 d2.lo, .int .i64 d2.hi, .slice d2.A d2.n d2.c] 29)) w3.heap.size d2 ∧ TR (w3.alloc (.cells #[.int .i64 d2.op, .int .u64 (uv (d2.q 0)), .int .u64 (uv (d2.q 1)), .int .u64 (uv (d2.q 2)), .int .u64 (uv (d2.q 3)), .int .i64 d2.lo, .int .i64 d2.hi, .slice d2.A d2.n d2.c] 29)) y d2) := ⟨T2.out.1.below bb2, T2.out.2.keeps bb2, TB.new w3 d2, v2.keeps nb2⟩
      clear v2 b2 nb2 bb2 D2 C2 T2
      unfold TD.val
      go_wp2
      go_ret
      exact ⟨rfl, C3.out⟩
  · have q4 : (za != 0) = true := by rw [bne_iff_ne]; exact hea
    clear hx hx2 hpa hpb hza hzb hea h150
    go_enter Try.func6, Try.ntmps6
    go_wp2_with fail
    refine S.out.mono ?_
    rintro e w1 ⟨rfl, hb1⟩
    have B1 := Lib.hid hb1
    clear hb1 S
    go_wp2_with fail
    refine (D1.out w1 B1.out).mono ?_
    rintro e w2 ⟨d1, rfl, v1, b1⟩
    have nb1 := below_new w2 (.cells d1.cells 29)
    have bb1 := b1.trans (nb1.mono b1.size)
    have C2 : Hid (Below w.heap.size w (w2.alloc (.cells #[.int .i64 d1.op, .int .u64 (uv (d1.q 0)), .int .u64 (uv (d1.q 1)), .int .u64 (uv (d1.q 2)), .int .u64 (uv (d1.q 3)), .int .i64 d1.lo, .int .i64 d1.hi, .slice d1.A d1.n d1.c] 29))) := B1.out.trans (bb1.mono B1.out.size)
    have T2 : Hid (TB (w2.alloc (.cells #[.int .i64 d1.op, .int .u64 (uv (d1.q 0)), .int .u64 (uv (d1.q 1)), .int .u64 (uv (d1.q 2)), .int .u64 (uv (d1.q 3)), .int .i64 d1.lo, .int .i64 d1.hi, .slice d1.A d1.n d1.c] 29)) w2.heap.size d1 ∧ TR (w2.alloc (.cells #[.int .i64 d1.op, .int .u64 (uv (d1.q 0)), .int .u64 (uv (d1.q 1)), .int .u64 (uv (d1.q 2)), .int .u64 (uv (d1.q 3)), .int .i64 d1.lo, .int .i64 d1.hi, .slice d1.A d1.n d1.c] 29)) x d1) := ⟨TB.new w2 d1, v1.keeps nb1⟩
    clear v1 b1 nb1 bb1 D1 B1
    unfold TD.val
    go_wp2_with fail
    refine (D2.out _ C2.out).mono ?_
    rintro e w3 ⟨d2, rfl, v2, b2⟩
    have nb2 := below_new w3 (.cells d2.cells 29)
    have bb2 := b2.trans (nb2.mono b2.size)
    have C3 : Hid (Below w.heap.size w (w3.alloc (.cells #[.int .i64 d2.op, .int .u64 (uv (d2.q 0)), .int .u64 (uv (d2.q 1)), .int .u64 (uv (d2.q 2)), .int .u64 (uv (d2.q 3)), .int .i64 d2.lo, .int .i64 d2.hi, .slice d2.A d2.n d2.c] 29))) := C2.out.trans (bb2.mono C2.out.size)
    have T3 : Hid (TB (w3.alloc (.cells #[.int .i64 d2.op, .int .u64 (uv (d2.q 0)), .int .u64 (uv (d2.q 1)), .int .u64 (uv (d2.q 2)), .int .u64 (uv (d2.q 3)), .int .i64 d2.lo, .int .i64 d2.hi, .slice d2.A d2.n d2.c] 29)) w2.heap.size d1 ∧ TR (w3.alloc (.cells #[.int .i64 d2.op, .int .u64 (uv (d2.q 0)), .int .u64 (uv (d2.q 1)), .int .u64 (uv (d2.q 2)), .int .u64 (uv (d2.q 3)), .int .i64 d2.lo, .int .i64 d2.hi, .slice d2.A d2.n d2.c] 29)) x d1 ∧ TB (w3.alloc (.cells #[.int .i64 d2.op, .int .u64 (uv (d2.q 0)), .int .u64 (uv (d2.q 1)), .int .u64 (uv (d2.q 2)), .int .u64 (uv (d2.q 3)), .int .i64 d2.lo, .int .i64 d2.hi, .slice d2.A d2.n d2.c] 29)) w3.heap.size d2 ∧ TR (w3.alloc (.cells #[.int .i64 d2.op, .int .u64 (uv (d2.q 0)), .int .u64 (uv (d2.q 1)), .int .u64 (uv (d2.q 2)), .int .u64 (uv (d2.q 3)), .int .i64 d2.lo, .int .i64 d2.hi, .slice d2.A d2.n d2.c] 29)) y d2) := ⟨T2.out.1.below bb2, T2.out.2.keeps bb2, TB.new w3 d2, v2.keeps nb2⟩
    clear v2 b2 nb2 bb2 D2 C2 T2
    unfold TD.val
    go_wp2
    go_ret
    exact ⟨rfl, C3.out⟩
end Go.Proofs.Ytnaecagmcpndhaa
