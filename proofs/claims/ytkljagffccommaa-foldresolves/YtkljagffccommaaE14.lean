/- The walk of FoldResolves, with what 'speaks' answers. -/
import Derived.Test.YtkljagffccommaaE12
import Derived.Test.YtkljagffccommaaG33
namespace Go.Proofs.Ytkljagffccommaa
open Go.RowKit

theorem sameT_self (t : Tm) : sameT t t = true := by
  induction t using Tm.ind with
  | h op f lo hi ks ih =>
    have hL : ∀ l : List Tm, (∀ k ∈ l, sameT k k = true) → sameL l l = true := by
      intro l
      induction l with
      | nil => intro _; rw [sameL]
      | cons k r ihl => intro h; rw [sameL, h k (by simp), ihl fun y hy => h y (by simp [hy])]; rfl
    rw [sameT, hL ks ih]
    have e : eqK f f = true := (eqK_iff f f).2 fun _ _ => rfl
    simp [e]
theorem Ins.refl (w : World) (S : Nat → Prop) : Ins w w S := fun k _ cur0 h0 => ⟨cur0, h0, rfl, fun _ => .inl fun _ _ => rfl⟩
theorem Fs.over {w w' : World} {S : Nat → Prop} {B : Nat} (h : Fs w w' S) (hB : B ≤ w.heap.size) (hS : ∀ k, S k → B ≤ k) : Below B w w' :=
  ⟨h.os, h.tape, h.output, h.size, fun k hk => h.block k (by omega) fun hs => by have := hS k hs; omega⟩
/-- the zero term -/
def zeroTm : Tm := .mk 0 (fun _ => false) 0 0 []
theorem tr_z (w : World) : TR w zeroTm zT := .mk 0 (fun _ => false) 0 0 [] (fun _ => 0#64) none 0 [] (fun i _ => by simp [kb]) rfl (by simp) (fun i t d h => by simp at h) (fun h => by simp at h)

/-- what the walk carries: the term handed in and its copy, both below B -/
structure Cg (w : World) (p B : Nat) (wr : World) (t : Tm) (d di : TD) : Prop where
  bel : Below w.heap.size w wr
  size : B ≤ wr.heap.size
  wb : w.heap.size < B
  pb : p < B
  tb : TB wr w.heap.size d
  tbi : TB wr p di
  ts : TS wr (fun k => k < B) t d
  tsi : TS wr (fun k => k < B) t di
theorem step_cg {w wr w' : World} {p B : Nat} {t : Tm} {d di : TD} (h : Hid (Cg w p B wr t d di)) (hb : Below B wr w') : Hid (Cg w p B w' t d di) :=
  ⟨h.out.bel.trans (hb.mono (Nat.le_of_lt h.out.wb)), Nat.le_trans h.out.size hb.size, h.out.wb, h.out.pb, (hb.block _ h.out.wb).trans h.out.tb, (hb.block _ h.out.pb).trans h.out.tbi,
   h.out.ts.to hb.size fun k hk _ => ⟨hk, hb.block k hk⟩, h.out.tsi.to hb.size fun k hk _ => ⟨hk, hb.block k hk⟩⟩
theorem step_cgn {w wr w' : World} {p B : Nat} {t : Tm} {d di : TD} (h : Hid (Cg w p B wr t d di)) (hb : Below wr.heap.size wr w') : Hid (Cg w p B w' t d di) := step_cg h (hb.mono h.out.size)

set_option maxRecDepth 100000 in
set_option maxHeartbeats 8000000 in
theorem resolves_walk (HS0 : ∀ w, Calls Try.prog 15 #[] w (Tells w (.bool true))) (t : Tm) (d : TD) (fl : Int) (hfl : -9223372036854775808 ≤ fl ∧ fl ≤ 9223372036854775807) (w : World) (ht : TR w t d) :
    Calls Try.prog 5 #[d.val, .int .i64 fl] w (Tells w (.bool true)) := by
  have HS := Lib.hid HS0; have HFL := Lib.hid hfl
  have C1 := Cf.new ht
  unfold TD.cells at C1
  unfold TD.val
  clear ht HS0 hfl
  go_enter Try.func5, Try.ntmps5
  go_wp2_with fail
  refine (HS.out _).mono ?_
  rintro e w2 ⟨rfl, hb2⟩
  have C2 := step_cf C1 hb2
  have D2 := great_few t d w2 C2.out.tr
  unfold TD.val at D2
  have D2 := Lib.hid D2
  obtain ⟨⟨x0, x1, x2, x3, x4, x5, x6, x7⟩, -⟩ := C2.out.tb.all
  clear C1 hb2
  go_wp2_with fail
  refine D2.out.mono ?_
  rintro e w3 ⟨b3, rfl, hf3, hb3⟩
  have C3 := step_cf C2 hb3
  clear C2 D2 hb3 x0 x1 x2 x3 x4 x5 x6 x7
  obtain ⟨⟨x0, x1, x2, x3, x4, x5, x6, x7⟩, -⟩ := C3.out.tb.all
  cases b3 with
  | true =>
    go_wp2
    go_ret
    exact ⟨rfl, C3.out.bel⟩
  | false =>
    have HF := Lib.hid (hf3 rfl)
    clear hf3
    have D4 := copy_any t d w3.heap.size w3 (Nat.le_refl _) C3.out.tr.inS HF.out
    unfold TD.val at D4
    have D4 := Lib.hid D4
    go_wp2_with fail
    refine D4.out.mono ?_
    rintro e w4 ⟨di, rfl, hv4, hb4⟩
    have C4 : Hid (Cg w w4.heap.size (w4.alloc (.cells di.cells 29)).heap.size (w4.alloc (.cells di.cells 29)) t d di) := by
      have c := step_cf (step_cf C3 hb4) (below_new w4 (.cells di.cells 29))
      have h1 : w.heap.size < w4.heap.size := Nat.lt_of_lt_of_le C3.out.tb.lt hb4.size
      exact ⟨c.out.bel, Nat.le_refl _, by simp; omega, by simp, c.out.tb, TB.new _ _, c.out.tr.inS, (hv4.tr.keeps (below_new w4 (.cells di.cells 29))).inS⟩
    clear C3 D4 hb4 hv4 x0 x1 x2 x3 x4 x5 x6 x7
    generalize hB : (w4.alloc (.cells di.cells 29)).heap.size = B at C4
    obtain ⟨⟨x0, x1, x2, x3, x4, x5, x6, x7⟩, -⟩ := C4.out.tb.all
    obtain ⟨⟨y0, y1, y2, y3, y4, y5, y6, y7⟩, -⟩ := C4.out.tbi.all
    by_cases hok : 0 ≤ fl ∧ fl ≤ 3
    · have HB := flg_of fl hok.1 hok.2
      have hfl4 : fl = 0 ∨ fl = 1 ∨ fl = 2 ∨ fl = 3 := by omega
      have D5 := resolve_any fl _ _ hok HB t di _ C4.out.tsi.tr HF.out
      have D6 : Hid (∀ W, TR W t d → Calls Try.prog 20 #[d.val, .int .i64 fl] W (Rso W (resT (decide (fl % 2 = 1)) (decide (1 < fl)) t))) := fun W h => resolve2_any fl hfl4 t d W h HF.out
      have eP := Lib.hid (resP_resT (decide (fl % 2 = 1)) (decide (1 < fl)) t)
      generalize resT (decide (fl % 2 = 1)) (decide (1 < fl)) t = v at *
      generalize resP (decide (fl % 2 = 1)) (decide (1 < fl)) t = u at *
      unfold Rsv at D5
      rw [hB] at D5
      have D5 := Lib.hid D5
      clear HB hfl4 hok
      unfold TD.val TD.cells at *
      go_wp2_with fail
      refine D5.out.mono ?_
      rintro e w5 ⟨d5, rfl, hv5, hb5⟩
      have C5 := step_cgn (step_cg C4 hb5) (below_new w5 (.cells d5.cells 29))
      have T5 := Lib.hid (TB.new w5 d5)
      have HS5 : Hid (∀ k, Sn B w5 k → B ≤ k ∧ k < w5.heap.size) := fun k hk => hk
      have V5 := Lib.hid (hv5.keeps (below_new w5 (.cells d5.cells 29)))
      generalize Sn B w5 = S at V5 HS5
      have D7 := right7E t d _ C5.out.ts.tr HF.out
      clear C4 D5 hb5 hv5 x0 x1 x2 x3 x4 x5 x6 x7 y0 y1 y2 y3 y4 y5 y6 y7
      obtain ⟨⟨x0, x1, x2, x3, x4, x5, x6, x7⟩, -⟩ := C5.out.tb.all
      unfold TD.val TD.cells at *
      have D7 := Lib.hid D7
      obtain ⟨rb, hrb⟩ : ∃ rb, rightT (woT t) = rb := ⟨_, rfl⟩
      rw [hrb] at D7 eP
      clear hrb
      go_wp2_with fail
      refine D7.out.mono ?_
      rintro e w6 ⟨rfl, hb6⟩
      have C6 := step_cgn C5 hb6
      have T6 := Lib.hid (T5.out.below hb6)
      have V6 := Lib.hid (V5.out.keeps hb6)
      have H6 : Hid (w5.heap.size < w6.heap.size) := by have := T6.out.lt; exact this
      clear C5 D7 T5 V5 hb6 x0 x1 x2 x3 x4 x5 x6 x7
      obtain ⟨⟨x0, x1, x2, x3, x4, x5, x6, x7⟩, -⟩ := C6.out.tb.all
      cases rb with
      | false =>
        go_wp2
        go_ret
        exact ⟨rfl, C6.out.bel⟩
      | true =>
        have e1 : u = v := eP.out rfl
        subst e1
        have D8 := D6.out w6 C6.out.ts.tr
        have D8 := Lib.hid D8
        clear eP D6
        go_wp2_with fail
        refine D8.out.mono ?_
        rintro e w8 ⟨d8, rfl, hv8, hb8⟩
        have C8 := step_cgn (step_cgn C6 hb8) (below_new w8 (.cells d8.cells 29))
        have T8 := Lib.hid ((T6.out.below hb8).alloc (.cells d8.cells 29))
        have T9 := Lib.hid (TB.new w8 d8)
        have V8 := Lib.hid ((V6.out.keeps hb8).keeps (below_new w8 (.cells d8.cells 29)))
        have H8 : Hid (w5.heap.size < w8.heap.size) := Nat.lt_of_lt_of_le H6.out hb8.size
        have D9 := same_any u u d5 d8 _ V8.out.tr ((hv8.tr).keeps (below_new w8 (.cells d8.cells 29)))
        rw [sameT_self] at D9
        have D9 := Lib.hid D9
        clear C6 D8 T6 V6 H6 hb8 hv8 x0 x1 x2 x3 x4 x5 x6 x7
        obtain ⟨⟨y0, y1, y2, y3, y4, y5, y6, y7⟩, -⟩ := T8.out.all
        obtain ⟨⟨z0, z1, z2, z3, z4, z5, z6, z7⟩, -⟩ := T9.out.all
        unfold TD.val TD.cells at *
        go_wp2_with fail
        refine D9.out.mono ?_
        rintro e w9 ⟨rfl, hb9⟩
        have C9 := step_cgn C8 hb9
        have T10 := Lib.hid (T8.out.below hb9)
        have V9 := Lib.hid (V8.out.keeps hb9)
        have H9 : Hid (w5.heap.size < w9.heap.size) := Nat.lt_of_lt_of_le H8.out (Nat.le_trans (by simp) hb9.size)
        have D10 := spoil_any w9 S (fun k hk => Nat.lt_trans (HS5.out k hk).2 H9.out) u d5 V9.out w9 (Nat.le_refl _) (Ins.refl _ _)
        unfold TD.val at D10
        have D10 := Lib.hid D10
        clear C8 D9 T8 T9 V8 H8 hb9 y0 y1 y2 y3 y4 y5 y6 y7 z0 z1 z2 z3 z4 z5 z6 z7
        obtain ⟨⟨y0, y1, y2, y3, y4, y5, y6, y7⟩, -⟩ := T10.out.all
        go_wp2_with fail
        refine D10.out.mono ?_
        rintro e w10 ⟨rfl, -, hfs⟩
        have C10 := step_cg C9 (hfs.over C9.out.size fun k hk => (HS5.out k hk).1)
        have D11 := same_any t t di d w10 C10.out.tsi.tr C10.out.ts.tr
        rw [sameT_self] at D11
        unfold TD.val at D11
        have D11 := Lib.hid D11
        clear C9 D10 T10 V9 hfs y0 y1 y2 y3 y4 y5 y6 y7
        obtain ⟨⟨x0, x1, x2, x3, x4, x5, x6, x7⟩, -⟩ := C10.out.tb.all
        obtain ⟨⟨y0, y1, y2, y3, y4, y5, y6, y7⟩, -⟩ := C10.out.tbi.all
        go_wp2_with fail
        refine D11.out.mono ?_
        rintro e w11 ⟨rfl, hb11⟩
        have C11 := step_cgn C10 hb11
        clear C10 D11 hb11 x0 x1 x2 x3 x4 x5 x6 x7 y0 y1 y2 y3 y4 y5 y6 y7
        go_wp2
        go_ret
        exact ⟨rfl, C11.out.bel⟩
    · have D5 := resolve_bad fl HFL.out hok di (w4.alloc (.cells di.cells 29))
      have D6 : Hid (∀ W, Calls Try.prog 20 #[d.val, .int .i64 fl] W fun e w' => e = .returned (.tuple #[zT.val, .int .i64 232]) ∧ Below W.heap.size W w') := fun W => resolve2_bad fl hok d W
      rw [hB] at D5
      unfold TD.val zT at D5 D6
      have D5 := Lib.hid D5
      clear hok
      unfold TD.val TD.cells at *
      go_wp2_with fail
      refine D5.out.mono ?_
      rintro e w5 ⟨rfl, hb5⟩
      have C5 := step_cgn (step_cg C4 hb5) (below_new w5 (.cells zT.cells 29))
      have T5 := Lib.hid (TB.new w5 zT)
      have D7 := right7E t d _ C5.out.ts.tr HF.out
      clear C4 D5 hb5 x0 x1 x2 x3 x4 x5 x6 x7 y0 y1 y2 y3 y4 y5 y6 y7
      obtain ⟨⟨x0, x1, x2, x3, x4, x5, x6, x7⟩, -⟩ := C5.out.tb.all
      unfold TD.val TD.cells zT at *
      have D7 := Lib.hid D7
      obtain ⟨rb, hrb⟩ : ∃ rb, rightT (woT t) = rb := ⟨_, rfl⟩
      rw [hrb] at D7
      clear hrb
      go_wp2_with fail
      refine D7.out.mono ?_
      rintro e w6 ⟨rfl, hb6⟩
      have C6 := step_cgn C5 hb6
      have T6 := Lib.hid (T5.out.below hb6)
      clear C5 D7 T5 hb6 x0 x1 x2 x3 x4 x5 x6 x7
      obtain ⟨⟨x0, x1, x2, x3, x4, x5, x6, x7⟩, -⟩ := C6.out.tb.all
      cases rb with
      | false =>
        go_wp2
        go_ret
        exact ⟨rfl, C6.out.bel⟩
      | true =>
        have D8 := Lib.hid (D6.out w6)
        clear D6
        go_wp2_with fail
        refine D8.out.mono ?_
        rintro e w8 ⟨rfl, hb8⟩
        have C8 := step_cgn (step_cgn C6 hb8) (below_new w8 (.cells zT.cells 29))
        have T8 := Lib.hid ((T6.out.below hb8).alloc (.cells zT.cells 29))
        have T9 := Lib.hid (TB.new w8 zT)
        have D9 := same_any zeroTm zeroTm zT zT (w8.alloc (.cells zT.cells 29)) (tr_z _) (tr_z _)
        rw [sameT_self] at D9
        have D9 := Lib.hid D9
        clear C6 D8 T6 hb8 x0 x1 x2 x3 x4 x5 x6 x7
        obtain ⟨⟨y0, y1, y2, y3, y4, y5, y6, y7⟩, -⟩ := T8.out.all
        obtain ⟨⟨z0, z1, z2, z3, z4, z5, z6, z7⟩, -⟩ := T9.out.all
        unfold TD.val TD.cells zT at *
        go_wp2_with fail
        refine D9.out.mono ?_
        rintro e w9 ⟨rfl, hb9⟩
        have C9 := step_cgn C8 hb9
        have T10 := Lib.hid (T8.out.below hb9)
        have D10 := spoil_none zT rfl w9
        unfold TD.val zT at D10
        have D10 := Lib.hid D10
        clear C8 D9 T8 T9 hb9 y0 y1 y2 y3 y4 y5 y6 y7 z0 z1 z2 z3 z4 z5 z6 z7
        obtain ⟨⟨y0, y1, y2, y3, y4, y5, y6, y7⟩, -⟩ := T10.out.all
        go_wp2_with fail
        refine D10.out.mono ?_
        rintro e w10 ⟨rfl, hb10⟩
        have C10 := step_cgn C9 hb10
        have D11 := same_any t t di d w10 C10.out.tsi.tr C10.out.ts.tr
        rw [sameT_self] at D11
        unfold TD.val at D11
        have D11 := Lib.hid D11
        clear C9 D10 T10 hb10 y0 y1 y2 y3 y4 y5 y6 y7
        obtain ⟨⟨x0, x1, x2, x3, x4, x5, x6, x7⟩, -⟩ := C10.out.tb.all
        obtain ⟨⟨y0, y1, y2, y3, y4, y5, y6, y7⟩, -⟩ := C10.out.tbi.all
        go_wp2_with fail
        refine D11.out.mono ?_
        rintro e w11 ⟨rfl, hb11⟩
        have C11 := step_cgn C10 hb11
        clear C10 D11 hb11 x0 x1 x2 x3 x4 x5 x6 x7 y0 y1 y2 y3 y4 y5 y6 y7
        go_wp2
        go_ret
        exact ⟨rfl, C11.out.bel⟩
end Go.Proofs.Ytkljagffccommaa
