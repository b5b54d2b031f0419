/- slices.DeleteFunc, of the terms of a kind. Rows of the call's own whose terms lie in a fixed set of blocks: DeleteFunc and around. row: what is simple of terms that follow one another. -/
import Derived.Test.YtkljagffccommaaG39
import Derived.Test.YtkljagffccommaaG37
namespace Go.Proofs.Ytkljagffccommaa
open Go.RowKit

theorem Kd.rowAt {w : World} {M c : Nat} {A : Option Addr} {ds : List TD} {ts : List Tm} (h : Kd w M A c ds ts) : RowAt w A ds := fun h0 => by
  obtain ⟨b, e, hr⟩ := h.own.row h0
  refine ⟨b, 0, e, h.own.lt (by rw [e]; rfl), fun i d hd j hj => ?_⟩
  rw [Nat.zero_add]; exact hr.cell hd j hj
/-- what is not of a kind -/
def notOp (x : Int) (t : Tm) : Bool := !decide (opOf t = x)
/-- what the loop carries -/
structure Dl (w wr : World) (M b c n : Nat) (x : Int) (ds D : List TD) (ts T : List Tm) (i j : Nat) : Prop where
  kd : Kd wr M (some ⟨b, 0, none⟩) c D T
  len : D.length = n
  dd : D.drop j = ds.drop j
  td : T.drop j = ts.drop j
  tk : T.take i = (ts.take j).filter (notOp x)
  gr : w.grownBy wr (some b)
theorem Dl.cut {w wr : World} {M b c n : Nat} {x : Int} {ds D : List TD} {ts T : List Tm} {i j : Nat} (h : Dl w wr M b c n x ds D ts T i j) (hi : i ≤ n) (L : List Value) :
    Kd (wr.setCells b (i * 8) L) M (some ⟨b, 0, none⟩) c (D.take i) (T.take i) ∧ wr.grownBy (wr.setCells b (i * 8) L) (some b) := by
  have hl := h.len
  have ho := h.kd.own.cut i (by omega)
  unfold OwnT at ho
  have hli : (D.take i).length = i := by rw [List.length_take]; omega
  rw [hli] at ho
  obtain ⟨o2, g2⟩ := own_tail (w := wr) L (i * 8) wr ho (Nat.le_refl _)
  refine ⟨⟨by unfold OwnT; rw [hli]; exact o2, by rw [List.length_take, List.length_take, h.kd.len], fun k t d h1 h2 => ?_, h.kd.blk⟩, g2⟩
  have k1 : k < i := by
    rcases Nat.lt_or_ge k i with h' | h'
    · exact h'
    · rw [List.getElem?_eq_none (by rw [hli]; exact h')] at h2; cases h2
  rw [List.getElem?_take_of_lt k1] at h1 h2
  exact (h.kd.el k t d h1 h2).to fun k hk => ⟨⟨⟨hk.1.1, Nat.lt_of_lt_of_le hk.1.2 g2.size⟩, hk.2⟩, fun hlt => g2.block k hlt hk.2⟩

set_option maxRecDepth 100000 in
set_option maxHeartbeats 8000000 in
theorem delete_any (x : Int) (p M : Nat) (A : Option Addr) (c : Nat) (ds : List TD) (ts : List Tm) (w : World) (hk : Kd w M A c ds ts) (hM : M ≤ w.heap.size) (h5 : ds.length ≤ 1000000)
    (hp : w.cell? ⟨p, 0, none⟩ = some (.int .i64 x)) (hlt : p < w.heap.size) (hpA : some p ≠ ow A) :
    Calls Try.prog 69 #[.slice A ds.length c, .func (.func 88) #[] #[.pointer (some ⟨p, 0, none⟩)]] w fun e w' => ∃ ds', e = .returned (.slice A (List.length ds') c) ∧ Kd w' M A c ds' (ts.filter (notOp x)) ∧ w.grownBy w' (ow A) := by
  have hn : ∀ args w, (callFunc 88 args).run Try.prog w = .ok (.enter 88 args) w := fun args W => by kernel_rfl
  have D1 := Lib.hid (index_any x p A c ds w hk.rowAt (by omega) hp hlt)
  have hops : ∀ (j : Nat) (d : TD) (t : Tm), ds[j]? = some d → ts[j]? = some t → d.op = opOf t := fun j d t h1 h2 => op_tv (hk.el j t d h2 h1)
  have HO := Lib.hid hops; have HK := Lib.hid hk; have HP := Lib.hid hp; have HL := Lib.hid hlt; have HA := Lib.hid hpA; have H5 := Lib.hid h5; have HLN := Lib.hid hk.len; have HM := Lib.hid hM
  obtain ⟨n, hnn⟩ : ∃ n, ds.length = n := ⟨_, rfl⟩
  rw [hnn] at D1 ⊢
  have HN := Lib.hid hnn
  clear hk hp hlt hpA h5 hops hM hnn
  go_enter Try.func69, Try.ntmps69
  go_wp2_with fail
  refine D1.out.mono ?_
  rintro e w2 ⟨r, rfl, hi, hb⟩
  have K2 := Lib.hid (HK.out.below hb)
  have B2 := Lib.hid hb
  have P2 : Hid (w2.cell? ⟨p, 0, none⟩ = some (.int .i64 x)) := (hb.cell (p := ⟨p, 0, none⟩) HL.out).trans HP.out
  clear D1 hb
  rcases hi with ⟨i0, rfl, ⟨d0, hd0, hx0⟩, hbef⟩ | ⟨rfl, hnone⟩
  · have hi0 : i0 < n := by rw [← HN.out]; exact (List.getElem?_eq_some_iff.1 hd0).1
    obtain ⟨b, hA, _⟩ := HK.out.own.row (by rw [HN.out]; omega)
    subst hA
    have L0 : Hid (Dl w w2 M b c n x ds ds ts ts i0 (i0 + 1)) := by
      refine ⟨K2.out, HN.out, rfl, rfl, ?_, ⟨B2.out.os, B2.out.tape, B2.out.output, B2.out.size, fun k hk _ => B2.out.block k hk⟩⟩
      have hit : i0 < ts.length := by rw [← HLN.out, HN.out]; exact hi0
      rw [← List.take_append_getElem hit, List.filter_append]
      have e1 : [ts[i0]].filter (notOp x) = [] := by
        have := HO.out i0 d0 _ hd0 (List.getElem?_eq_getElem hit)
        simp [notOp, ← this, hx0]
      have e2 : (ts.take i0).filter (notOp x) = ts.take i0 := by
        rw [List.filter_eq_self]
        intro t ht
        obtain ⟨j, hj⟩ := List.getElem?_of_mem ht
        have hji : j < i0 := by
          rcases Nat.lt_or_ge j i0 with h | h
          · exact h
          · rw [List.getElem?_eq_none (by rw [List.length_take]; omega)] at hj; cases hj
        rw [List.getElem?_take_of_lt hji] at hj
        have hjd : j < ds.length := by rw [HN.out]; omega
        have h1 := HO.out j _ t (List.getElem?_eq_getElem hjd) hj
        have h2 := hbef j hji _ (List.getElem?_eq_getElem hjd)
        rw [h1] at h2
        simp [notOp, h2]
      rw [e1, e2, List.append_nil]
    have qn : ((i0 : Int) == -1) = false := by rw [beq_eq_false_iff_ne]; omega
    have q6 : IntKind.i64.wrap ((i0 : Int) + 1) = ((i0 + 1 : Nat) : Int) := by have := H5.out; rw [HN.out] at this; rw [IntWalk.i64_in _ (by omega)]; omega
    have hn5 : n ≤ 1000000 := by rw [← HN.out]; exact H5.out
    clear hd0 hx0 hbef K2 B2 P2
    go_wp2_with fail
    go_loopw [5, 6] (fun vi vj wr => ∃ (i j : Nat) (D : List TD) (T : List Tm), i < j ∧ j ≤ n ∧ vi = .int .i64 (i : Nat) ∧ vj = .int .i64 (j : Nat) ∧ Hid (Dl w wr M b c n x ds D ts T i j)) (fun _ vj _ => n - (intOf vj).toNat)
    case atStart => exact ⟨i0, i0 + 1, ds, ts, by omega, by omega, rfl, by simp, L0⟩
    case round =>
      obtain ⟨i, j, D, T, hij, hjn, rfl, rfl, hW⟩ := hrel
      clear L0
      by_cases hlt : j < n
      · have qi : (j : Int) < (n : Int) := by omega
        have hjd : j < ds.length := by rw [HN.out]; exact hlt
        have hjt : j < ts.length := by rw [← HLN.out]; exact hjd
        have hD : D[j]? = some ds[j] := by have h := congrArg (·[0]?) hW.out.dd; simp only [List.getElem?_drop, Nat.add_zero] at h; rw [h]; exact List.getElem?_eq_getElem hjd
        have hT : T[j]? = some ts[j] := by have h := congrArg (·[0]?) hW.out.td; simp only [List.getElem?_drop, Nat.add_zero] at h; rw [h]; exact List.getElem?_eq_getElem hjt
        have hel := hW.out.kd.el j _ _ hT hD
        have hop := HO.out j _ _ (List.getElem?_eq_getElem hjd) (List.getElem?_eq_getElem hjt)
        have hfil : (ts.take (j + 1)).filter (notOp x) = (ts.take j).filter (notOp x) ++ [ts[j]].filter (notOp x) := by rw [← List.take_append_getElem hjt, List.filter_append]
        obtain ⟨b', hb', hrow⟩ := hW.out.kd.own.row (by rw [hW.out.len]; omega)
        obtain rfl : b = b' := by injection hb' with h; injection h
        have hblt := hW.out.kd.own.lt (k := b) rfl
        have cj := fun o (ho : o < 8) => hrow.cell hD o ho
        have hiD : i < D.length := by rw [hW.out.len]; omega
        have ci := fun o (ho : o < 8) => hrow.cell (List.getElem?_eq_getElem hiD) o ho
        have fz := fun o => World.ownsRow.frozenAt hW.out.kd.own o
        generalize ds[j] = dt at *
        generalize ts[j] = kt at *
        generalize D[i] = di at *
        have a0 : wr.cell? ⟨b, j * 8, none⟩ = some (.int .i64 dt.op) := cj 0 (by omega)
        have a1 : wr.cell? ⟨b, j * 8 + 1, none⟩ = some (.int .u64 (uv (dt.q 0))) := cj 1 (by omega)
        have a2 : wr.cell? ⟨b, j * 8 + 2, none⟩ = some (.int .u64 (uv (dt.q 1))) := cj 2 (by omega)
        have a3 : wr.cell? ⟨b, j * 8 + 3, none⟩ = some (.int .u64 (uv (dt.q 2))) := cj 3 (by omega)
        have a4 : wr.cell? ⟨b, j * 8 + 4, none⟩ = some (.int .u64 (uv (dt.q 3))) := cj 4 (by omega)
        have a5 : wr.cell? ⟨b, j * 8 + 5, none⟩ = some (.int .i64 dt.lo) := cj 5 (by omega)
        have a6 : wr.cell? ⟨b, j * 8 + 6, none⟩ = some (.int .i64 dt.hi) := cj 6 (by omega)
        have a7 : wr.cell? ⟨b, j * 8 + 7, none⟩ = some (.slice dt.A dt.n dt.c) := cj 7 (by omega)
        have pc : wr.cell? ⟨p, 0, none⟩ = some (.int .i64 x) := (World.cell?_of_block (a := ⟨p, 0, none⟩) (hW.out.gr.block p HL.out (fun e => HA.out e))).trans HP.out
        have pl : p < wr.heap.size := Nat.lt_of_lt_of_le HL.out hW.out.gr.size
        have nb := below_new wr (.cells dt.cells 29)
        have D2 := Lib.hid (op_any x p dt (wr.alloc (.cells dt.cells 29)) ((nb.cell (p := ⟨p, 0, none⟩) pl).trans pc) (Nat.lt_of_lt_of_le pl nb.size))
        have T1 := Lib.hid (TB.new wr dt)
        have NB := Lib.hid nb
        obtain ⟨⟨x0, x1, x2, x3, x4, x5, x6, x7⟩, -⟩ := T1.out.all
        have q6 : IntKind.i64.wrap ((j : Int) + 1) = ((j + 1 : Nat) : Int) := by rw [IntWalk.i64_in _ (by omega)]; omega
        have q7 : IntKind.i64.wrap ((i : Int) + 1) = ((i + 1 : Nat) : Int) := by rw [IntWalk.i64_in _ (by omega)]; omega
        have HE := Lib.hid hel; have HF := Lib.hid hfil; have HOP := Lib.hid hop; have HI := Lib.hid hiD; have CI := Lib.hid ci; have FZ := Lib.hid fz; have HB := Lib.hid hblt
        clear hD hT hel hop hfil hb' hrow hblt cj hiD ci fz pc pl nb
        unfold TD.val TD.cells at *
        go_wp2_with fail
        refine D2.out.mono ?_
        rintro e w5 ⟨rfl, hb5⟩
        have B5 := Lib.hid (NB.out.trans (hb5.mono (by simp)))
        have T5 := Lib.hid (T1.out.below hb5)
        have K5 := Lib.hid (hW.out.kd.below B5.out)
        have V5 : Hid (TV w5 (fun k => Sn M w5 k ∧ some k ≠ ow (some ⟨b, 0, none⟩)) kt dt) := HE.out.to fun k hk => ⟨⟨⟨hk.1.1, Nat.lt_of_lt_of_le hk.1.2 B5.out.size⟩, hk.2⟩, fun hlt => B5.out.block k hlt⟩
        have cw5 := fun o (ho : o < 8) => (World.cell?_of_block (a := ⟨b, i * 8 + o, none⟩) (B5.out.block b HB.out)).trans (CI.out o ho)
        have fw5 := fun o => (World.frozen?_of_block (a := ⟨b, o, none⟩) (B5.out.block b HB.out)).trans (FZ.out o)
        clear D2 hb5 a0 a1 a2 a3 a4 a5 a6 a7 x0 x1 x2 x3 x4 x5 x6 x7 T1 NB CI FZ
        obtain ⟨⟨x0, x1, x2, x3, x4, x5, x6, x7⟩, -⟩ := T5.out.all
        by_cases hx : dt.op = x
        · have ex : (dt.op == x) = true := by rw [hx]; simp
          have R : Hid (Dl w w5 M b c n x ds D ts T i (j + 1)) := by
            refine ⟨K5.out, hW.out.len, ?_, ?_, ?_, ⟨B5.out.os.trans hW.out.gr.os, B5.out.tape.trans hW.out.gr.tape, B5.out.output.trans hW.out.gr.output, Nat.le_trans hW.out.gr.size B5.out.size, fun k hk hne => (B5.out.block k (Nat.lt_of_lt_of_le hk hW.out.gr.size)).trans (hW.out.gr.block k hk hne)⟩⟩
            · have h := congrArg (·.drop 1) hW.out.dd; simpa [List.drop_drop] using h
            · have h := congrArg (·.drop 1) hW.out.td; simpa [List.drop_drop] using h
            · rw [hW.out.tk, HF.out]; simp [notOp, ← HOP.out, hx]
          clear cw5 fw5 hx hW
          go_wp2_with fail
          go_roundw
          case rel => exact ⟨i, j + 1, D, T, by omega, by omega, rfl, by simp, R⟩
          case measure => simp [intOf]; omega
        · have ex : (dt.op == x) = false := by rw [beq_eq_false_iff_ne]; exact hx
          obtain ⟨kp, gp⟩ := K5.out.put i HI.out kt dt V5.out
          have R : Hid (Dl w (putT w5 b (i * 8) dt) M b c n x ds (D.set i dt) ts (T.set i kt) (i + 1) (j + 1)) := by
            have hiT : i < T.length := by rw [← hW.out.kd.len]; exact HI.out
            refine ⟨kp, by rw [List.length_set]; exact hW.out.len, ?_, ?_, ?_, ?_⟩
            · rw [List.drop_set_of_lt (by omega)]; have h := congrArg (·.drop 1) hW.out.dd; simpa [List.drop_drop] using h
            · rw [List.drop_set_of_lt (by omega)]; have h := congrArg (·.drop 1) hW.out.td; simpa [List.drop_drop] using h
            · have hne : ¬ opOf kt = x := fun e => hx (HOP.out.trans e)
              rw [← List.take_append_getElem (by rw [List.length_set]; exact hiT), List.getElem_set_self, List.take_set_of_le (Nat.le_refl _), hW.out.tk, HF.out]
              simp [notOp, hne]
            · exact grown_same ⟨B5.out.os.trans hW.out.gr.os, B5.out.tape.trans hW.out.gr.tape, B5.out.output.trans hW.out.gr.output, Nat.le_trans hW.out.gr.size B5.out.size, fun k hk hne => (B5.out.block k (Nat.lt_of_lt_of_le hk hW.out.gr.size)).trans (hW.out.gr.block k hk hne)⟩ gp
          have c0 : w5.cell? ⟨b, i * 8, none⟩ = some (.int .i64 di.op) := cw5 0 (by omega)
          have c1 : w5.cell? ⟨b, i * 8 + 1, none⟩ = some (.int .u64 (uv (di.q 0))) := cw5 1 (by omega)
          have c2 : w5.cell? ⟨b, i * 8 + 2, none⟩ = some (.int .u64 (uv (di.q 1))) := cw5 2 (by omega)
          have c3 : w5.cell? ⟨b, i * 8 + 3, none⟩ = some (.int .u64 (uv (di.q 2))) := cw5 3 (by omega)
          have c4 : w5.cell? ⟨b, i * 8 + 4, none⟩ = some (.int .u64 (uv (di.q 3))) := cw5 4 (by omega)
          have c5 : w5.cell? ⟨b, i * 8 + 5, none⟩ = some (.int .i64 di.lo) := cw5 5 (by omega)
          have c6 : w5.cell? ⟨b, i * 8 + 6, none⟩ = some (.int .i64 di.hi) := cw5 6 (by omega)
          have c7 : w5.cell? ⟨b, i * 8 + 7, none⟩ = some (.slice di.A di.n di.c) := cw5 7 (by omega)
          have g0 := fw5 (i * 8); have g1 := fw5 (i * 8 + 1); have g2 := fw5 (i * 8 + 2); have g3 := fw5 (i * 8 + 3)
          have g4 := fw5 (i * 8 + 4); have g5 := fw5 (i * 8 + 5); have g6 := fw5 (i * 8 + 6); have g7 := fw5 (i * 8 + 7)
          have hin : i < n := by omega
          have qj : (i : Int) < (n : Int) := by omega
          clear cw5 fw5 hx hW kp gp
          go_wp2_with fail
          go_roundw
          case rel => exact ⟨i + 1, j + 1, D.set i dt, T.set i kt, by omega, by omega, by simp, by simp, R⟩
          case measure => simp [intOf]; omega
      · have qi : ¬ (j : Int) < (n : Int) := by omega
        have hj : j = n := by omega
        have hin : i < n := by omega
        have EF : Hid (T.take i = ts.filter (notOp x)) := by
          show _ = _
          rw [hW.out.tk, List.take_of_length_le (by rw [← HLN.out, HN.out]; omega)]
        have hown := hW.out.kd.own
        obtain ⟨L, hcl⟩ := run_clear_terms wr b (i * 8) (n - i) (c - i) (by omega) (fun k hk => by
          rw [World.ownsRow.cellAt hown (i * 8 + k) (by rw [hW.out.len]; omega), List.getElem?_eq_getElem (by rw [len_tcs, hW.out.len]; omega)]; rfl) (fun k _ => World.ownsRow.frozenAt hown _)
        have CU := Lib.hid (hW.out.cut (by omega) L)
        have G1 := Lib.hid hW.out.gr
        have LI : Hid ((D.take i).length = i) := by show _ = _; rw [List.length_take, hW.out.len]; omega
        have hnc : n ≤ c := by
          rcases hown.2 with ⟨h', _⟩ | ⟨g', cap', cur, h', _, _, hnc, _⟩
          · simp at h'
          · simp only [Value.slice.injEq, Option.some.injEq, Addr.mk.injEq, and_true, true_and] at h'
            rw [hW.out.len] at hnc; rw [h'.2]; exact hnc
        have hic : i < c := by omega
        have qic : (i : Int) < (c : Int) := by omega
        have qnc : (n : Int) ≤ (c : Int) := by omega
        clear hj hown hW
        go_wp2
        go_ret
        exact ⟨D.take i, by rw [LI.out]; rfl, by rw [← EF.out]; exact CU.out.1, grown_same G1.out CU.out.2⟩
  · have eF : ts.filter (notOp x) = ts := by
      rw [List.filter_eq_self]
      intro t ht
      obtain ⟨j, hj⟩ := List.getElem?_of_mem ht
      have hjd : j < ds.length := by rw [HLN.out]; exact (List.getElem?_eq_some_iff.1 hj).1
      have h1 := HO.out j _ t (List.getElem?_eq_getElem hjd) hj
      have h2 := hnone j _ (List.getElem?_eq_getElem hjd)
      rw [h1] at h2
      simp [notOp, h2]
    have EF := Lib.hid eF
    clear eF hnone
    go_wp2
    go_ret
    exact ⟨ds, by rw [HN.out]; rfl, by rw [EF.out]; exact K2.out, ⟨B2.out.os, B2.out.tape, B2.out.output, B2.out.size, fun k hk _ => B2.out.block k hk⟩⟩
end Go.Proofs.Ytkljagffccommaa
namespace Go.Proofs.Ytkljagffccommaa
open Go.RowKit
namespace Kx
/-- a row of the call's own; its terms lie in blocks of S, never in the row's own -/
structure Kf (w : World) (S : Nat → Prop) (A : Option Addr) (c : Nat) (ds : List TD) (ts : List Tm) : Prop where
  own : OwnT w A c ds
  len : ds.length = ts.length
  el : ∀ (i : Nat) (t : Tm) (d : TD), ts[i]? = some t → ds[i]? = some d → TV w (fun k => S k ∧ some k ≠ ow A) t d
theorem kf_of {w : World} {M : Nat} {A : Option Addr} {c : Nat} {ds : List TD} {ts : List Tm} (h : Kd w M A c ds ts) : Kf w (Sn M w) A c ds ts := ⟨h.own, h.len, h.el⟩
theorem Kf.below {w w' : World} {S : Nat → Prop} {A : Option Addr} {c : Nat} {ds : List TD} {ts : List Tm} (h : Kf w S A c ds ts) (hb : Below w.heap.size w w') : Kf w' S A c ds ts :=
  ⟨h.own.below hb, h.len, fun i t d h1 h2 => (h.el i t d h1 h2).keeps hb⟩
theorem Kf.rowAt {w : World} {S : Nat → Prop} {c : Nat} {A : Option Addr} {ds : List TD} {ts : List Tm} (h : Kf w S A c ds ts) : RowAt w A ds := fun h0 => by
  obtain ⟨b, e, hr⟩ := h.own.row h0
  refine ⟨b, 0, e, h.own.lt (by rw [e]; rfl), fun i d hd j hj => ?_⟩
  rw [Nat.zero_add]; exact hr.cell hd j hj
theorem Kf.put {w : World} {S : Nat → Prop} {b c : Nat} {D : List TD} {T : List Tm} (h : Kf w S (some ⟨b, 0, none⟩) c D T) (i : Nat) (hi : i < D.length) (t : Tm) (v : TD) (hv : TV w (fun k => S k ∧ some k ≠ ow (some ⟨b, 0, none⟩)) t v) :
    Kf (putT w b (i * 8) v) S (some ⟨b, 0, none⟩) c (D.set i v) (T.set i t) ∧ w.grownBy (putT w b (i * 8) v) (some b) := by
  obtain ⟨ho, hg⟩ := h.own.put i hi v
  refine ⟨⟨ho, by simp [h.len], fun j t' d' h1 h2 => ?_⟩, hg⟩
  have hx : TV w (fun k => S k ∧ some k ≠ ow (some ⟨b, 0, none⟩)) t' d' := by
    by_cases e : i = j
    · subst e
      rw [List.getElem?_set_self (by rw [← h.len]; exact hi)] at h1
      rw [List.getElem?_set_self hi] at h2
      injection h1 with h1; injection h2 with h2
      subst h1; subst h2; exact hv
    · rw [List.getElem?_set_ne e] at h1 h2
      exact h.el j t' d' h1 h2
  exact hx.to fun k hk => ⟨hk, fun hlt => hg.block k hlt hk.2⟩
/-- what the loop carries -/
structure Dl (w wr : World) (S : Nat → Prop) (b c n : Nat) (x : Int) (ds D : List TD) (ts T : List Tm) (i j : Nat) : Prop where
  kd : Kf wr S (some ⟨b, 0, none⟩) c D T
  len : D.length = n
  dd : D.drop j = ds.drop j
  td : T.drop j = ts.drop j
  tk : T.take i = (ts.take j).filter (notOp x)
  gr : w.grownBy wr (some b)
theorem Dl.cut {w wr : World} {S : Nat → Prop} {b c n : Nat} {x : Int} {ds D : List TD} {ts T : List Tm} {i j : Nat} (h : Dl w wr S b c n x ds D ts T i j) (hi : i ≤ n) (L : List Value) :
    Kf (wr.setCells b (i * 8) L) S (some ⟨b, 0, none⟩) c (D.take i) (T.take i) ∧ wr.grownBy (wr.setCells b (i * 8) L) (some b) := by
  have hl := h.len
  have ho := h.kd.own.cut i (by omega)
  unfold OwnT at ho
  have hli : (D.take i).length = i := by rw [List.length_take]; omega
  rw [hli] at ho
  obtain ⟨o2, g2⟩ := own_tail (w := wr) L (i * 8) wr ho (Nat.le_refl _)
  refine ⟨⟨by unfold OwnT; rw [hli]; exact o2, by rw [List.length_take, List.length_take, h.kd.len], fun k t d h1 h2 => ?_⟩, g2⟩
  have k1 : k < i := by
    rcases Nat.lt_or_ge k i with h' | h'
    · exact h'
    · rw [List.getElem?_eq_none (by rw [hli]; exact h')] at h2; cases h2
  rw [List.getElem?_take_of_lt k1] at h1 h2
  exact (h.kd.el k t d h1 h2).to fun k hk => ⟨hk, fun hlt => g2.block k hlt hk.2⟩

set_option maxRecDepth 100000 in
set_option maxHeartbeats 8000000 in
theorem delete_any (x : Int) (p : Nat) (S : Nat → Prop) (A : Option Addr) (c : Nat) (ds : List TD) (ts : List Tm) (w : World) (hk : Kf w S A c ds ts) (h5 : ds.length ≤ 1000000)
    (hp : w.cell? ⟨p, 0, none⟩ = some (.int .i64 x)) (hlt : p < w.heap.size) (hpA : some p ≠ ow A) :
    Calls Try.prog 69 #[.slice A ds.length c, .func (.func 88) #[] #[.pointer (some ⟨p, 0, none⟩)]] w fun e w' => ∃ ds', e = .returned (.slice A (List.length ds') c) ∧ Kf w' S A c ds' (ts.filter (notOp x)) ∧ w.grownBy w' (ow A) := by
  have hn : ∀ args w, (callFunc 88 args).run Try.prog w = .ok (.enter 88 args) w := fun args W => by kernel_rfl
  have D1 := Lib.hid (index_any x p A c ds w hk.rowAt (by omega) hp hlt)
  have hops : ∀ (j : Nat) (d : TD) (t : Tm), ds[j]? = some d → ts[j]? = some t → d.op = opOf t := fun j d t h1 h2 => op_tv (hk.el j t d h2 h1)
  have HO := Lib.hid hops; have HK := Lib.hid hk; have HP := Lib.hid hp; have HL := Lib.hid hlt; have HA := Lib.hid hpA; have H5 := Lib.hid h5; have HLN := Lib.hid hk.len
  obtain ⟨n, hnn⟩ : ∃ n, ds.length = n := ⟨_, rfl⟩
  rw [hnn] at D1 ⊢
  have HN := Lib.hid hnn
  clear hk hp hlt hpA h5 hops hnn
  go_enter Try.func69, Try.ntmps69
  go_wp2_with fail
  refine D1.out.mono ?_
  rintro e w2 ⟨r, rfl, hi, hb⟩
  have K2 := Lib.hid (HK.out.below hb)
  have B2 := Lib.hid hb
  have P2 : Hid (w2.cell? ⟨p, 0, none⟩ = some (.int .i64 x)) := (hb.cell (p := ⟨p, 0, none⟩) HL.out).trans HP.out
  clear D1 hb
  rcases hi with ⟨i0, rfl, ⟨d0, hd0, hx0⟩, hbef⟩ | ⟨rfl, hnone⟩
  · have hi0 : i0 < n := by rw [← HN.out]; exact (List.getElem?_eq_some_iff.1 hd0).1
    obtain ⟨b, hA, _⟩ := HK.out.own.row (by rw [HN.out]; omega)
    subst hA
    have L0 : Hid (Dl w w2 S b c n x ds ds ts ts i0 (i0 + 1)) := by
      refine ⟨K2.out, HN.out, rfl, rfl, ?_, ⟨B2.out.os, B2.out.tape, B2.out.output, B2.out.size, fun k hk _ => B2.out.block k hk⟩⟩
      have hit : i0 < ts.length := by rw [← HLN.out, HN.out]; exact hi0
      rw [← List.take_append_getElem hit, List.filter_append]
      have e1 : [ts[i0]].filter (notOp x) = [] := by
        have := HO.out i0 d0 _ hd0 (List.getElem?_eq_getElem hit)
        simp [notOp, ← this, hx0]
      have e2 : (ts.take i0).filter (notOp x) = ts.take i0 := by
        rw [List.filter_eq_self]
        intro t ht
        obtain ⟨j, hj⟩ := List.getElem?_of_mem ht
        have hji : j < i0 := by
          rcases Nat.lt_or_ge j i0 with h | h
          · exact h
          · rw [List.getElem?_eq_none (by rw [List.length_take]; omega)] at hj; cases hj
        rw [List.getElem?_take_of_lt hji] at hj
        have hjd : j < ds.length := by rw [HN.out]; omega
        have h1 := HO.out j _ t (List.getElem?_eq_getElem hjd) hj
        have h2 := hbef j hji _ (List.getElem?_eq_getElem hjd)
        rw [h1] at h2
        simp [notOp, h2]
      rw [e1, e2, List.append_nil]
    have qn : ((i0 : Int) == -1) = false := by rw [beq_eq_false_iff_ne]; omega
    have q6 : IntKind.i64.wrap ((i0 : Int) + 1) = ((i0 + 1 : Nat) : Int) := by have := H5.out; rw [HN.out] at this; rw [IntWalk.i64_in _ (by omega)]; omega
    have hn5 : n ≤ 1000000 := by rw [← HN.out]; exact H5.out
    clear hd0 hx0 hbef K2 B2 P2
    go_wp2_with fail
    go_loopw [5, 6] (fun vi vj wr => ∃ (i j : Nat) (D : List TD) (T : List Tm), i < j ∧ j ≤ n ∧ vi = .int .i64 (i : Nat) ∧ vj = .int .i64 (j : Nat) ∧ Hid (Dl w wr S b c n x ds D ts T i j)) (fun _ vj _ => n - (intOf vj).toNat)
    case atStart => exact ⟨i0, i0 + 1, ds, ts, by omega, by omega, rfl, by simp, L0⟩
    case round =>
      obtain ⟨i, j, D, T, hij, hjn, rfl, rfl, hW⟩ := hrel
      clear L0
      by_cases hlt : j < n
      · have qi : (j : Int) < (n : Int) := by omega
        have hjd : j < ds.length := by rw [HN.out]; exact hlt
        have hjt : j < ts.length := by rw [← HLN.out]; exact hjd
        have hD : D[j]? = some ds[j] := by have h := congrArg (·[0]?) hW.out.dd; simp only [List.getElem?_drop, Nat.add_zero] at h; rw [h]; exact List.getElem?_eq_getElem hjd
        have hT : T[j]? = some ts[j] := by have h := congrArg (·[0]?) hW.out.td; simp only [List.getElem?_drop, Nat.add_zero] at h; rw [h]; exact List.getElem?_eq_getElem hjt
        have hel := hW.out.kd.el j _ _ hT hD
        have hop := HO.out j _ _ (List.getElem?_eq_getElem hjd) (List.getElem?_eq_getElem hjt)
        have hfil : (ts.take (j + 1)).filter (notOp x) = (ts.take j).filter (notOp x) ++ [ts[j]].filter (notOp x) := by rw [← List.take_append_getElem hjt, List.filter_append]
        obtain ⟨b', hb', hrow⟩ := hW.out.kd.own.row (by rw [hW.out.len]; omega)
        obtain rfl : b = b' := by injection hb' with h; injection h
        have hblt := hW.out.kd.own.lt (k := b) rfl
        have cj := fun o (ho : o < 8) => hrow.cell hD o ho
        have hiD : i < D.length := by rw [hW.out.len]; omega
        have ci := fun o (ho : o < 8) => hrow.cell (List.getElem?_eq_getElem hiD) o ho
        have fz := fun o => World.ownsRow.frozenAt hW.out.kd.own o
        generalize ds[j] = dt at *
        generalize ts[j] = kt at *
        generalize D[i] = di at *
        have a0 : wr.cell? ⟨b, j * 8, none⟩ = some (.int .i64 dt.op) := cj 0 (by omega)
        have a1 : wr.cell? ⟨b, j * 8 + 1, none⟩ = some (.int .u64 (uv (dt.q 0))) := cj 1 (by omega)
        have a2 : wr.cell? ⟨b, j * 8 + 2, none⟩ = some (.int .u64 (uv (dt.q 1))) := cj 2 (by omega)
        have a3 : wr.cell? ⟨b, j * 8 + 3, none⟩ = some (.int .u64 (uv (dt.q 2))) := cj 3 (by omega)
        have a4 : wr.cell? ⟨b, j * 8 + 4, none⟩ = some (.int .u64 (uv (dt.q 3))) := cj 4 (by omega)
        have a5 : wr.cell? ⟨b, j * 8 + 5, none⟩ = some (.int .i64 dt.lo) := cj 5 (by omega)
        have a6 : wr.cell? ⟨b, j * 8 + 6, none⟩ = some (.int .i64 dt.hi) := cj 6 (by omega)
        have a7 : wr.cell? ⟨b, j * 8 + 7, none⟩ = some (.slice dt.A dt.n dt.c) := cj 7 (by omega)
        have pc : wr.cell? ⟨p, 0, none⟩ = some (.int .i64 x) := (World.cell?_of_block (a := ⟨p, 0, none⟩) (hW.out.gr.block p HL.out (fun e => HA.out e))).trans HP.out
        have pl : p < wr.heap.size := Nat.lt_of_lt_of_le HL.out hW.out.gr.size
        have nb := below_new wr (.cells dt.cells 29)
        have D2 := Lib.hid (op_any x p dt (wr.alloc (.cells dt.cells 29)) ((nb.cell (p := ⟨p, 0, none⟩) pl).trans pc) (Nat.lt_of_lt_of_le pl nb.size))
        have T1 := Lib.hid (TB.new wr dt)
        have NB := Lib.hid nb
        obtain ⟨⟨x0, x1, x2, x3, x4, x5, x6, x7⟩, -⟩ := T1.out.all
        have q6 : IntKind.i64.wrap ((j : Int) + 1) = ((j + 1 : Nat) : Int) := by rw [IntWalk.i64_in _ (by omega)]; omega
        have q7 : IntKind.i64.wrap ((i : Int) + 1) = ((i + 1 : Nat) : Int) := by rw [IntWalk.i64_in _ (by omega)]; omega
        have HE := Lib.hid hel; have HF := Lib.hid hfil; have HOP := Lib.hid hop; have HI := Lib.hid hiD; have CI := Lib.hid ci; have FZ := Lib.hid fz; have HB := Lib.hid hblt
        clear hD hT hel hop hfil hb' hrow hblt cj hiD ci fz pc pl nb
        unfold TD.val TD.cells at *
        go_wp2_with fail
        refine D2.out.mono ?_
        rintro e w5 ⟨rfl, hb5⟩
        have B5 := Lib.hid (NB.out.trans (hb5.mono (by simp)))
        have T5 := Lib.hid (T1.out.below hb5)
        have K5 := Lib.hid (hW.out.kd.below B5.out)
        have V5 : Hid (TV w5 (fun k => S k ∧ some k ≠ ow (some ⟨b, 0, none⟩)) kt dt) := HE.out.to fun k hk => ⟨hk, fun hlt => B5.out.block k hlt⟩
        have cw5 := fun o (ho : o < 8) => (World.cell?_of_block (a := ⟨b, i * 8 + o, none⟩) (B5.out.block b HB.out)).trans (CI.out o ho)
        have fw5 := fun o => (World.frozen?_of_block (a := ⟨b, o, none⟩) (B5.out.block b HB.out)).trans (FZ.out o)
        clear D2 hb5 a0 a1 a2 a3 a4 a5 a6 a7 x0 x1 x2 x3 x4 x5 x6 x7 T1 NB CI FZ
        obtain ⟨⟨x0, x1, x2, x3, x4, x5, x6, x7⟩, -⟩ := T5.out.all
        by_cases hx : dt.op = x
        · have ex : (dt.op == x) = true := by rw [hx]; simp
          have R : Hid (Dl w w5 S b c n x ds D ts T i (j + 1)) := by
            refine ⟨K5.out, hW.out.len, ?_, ?_, ?_, ⟨B5.out.os.trans hW.out.gr.os, B5.out.tape.trans hW.out.gr.tape, B5.out.output.trans hW.out.gr.output, Nat.le_trans hW.out.gr.size B5.out.size, fun k hk hne => (B5.out.block k (Nat.lt_of_lt_of_le hk hW.out.gr.size)).trans (hW.out.gr.block k hk hne)⟩⟩
            · have h := congrArg (·.drop 1) hW.out.dd; simpa [List.drop_drop] using h
            · have h := congrArg (·.drop 1) hW.out.td; simpa [List.drop_drop] using h
            · rw [hW.out.tk, HF.out]; simp [notOp, ← HOP.out, hx]
          clear cw5 fw5 hx hW
          go_wp2_with fail
          go_roundw
          case rel => exact ⟨i, j + 1, D, T, by omega, by omega, rfl, by simp, R⟩
          case measure => simp [intOf]; omega
        · have ex : (dt.op == x) = false := by rw [beq_eq_false_iff_ne]; exact hx
          obtain ⟨kp, gp⟩ := K5.out.put i HI.out kt dt V5.out
          have R : Hid (Dl w (putT w5 b (i * 8) dt) S b c n x ds (D.set i dt) ts (T.set i kt) (i + 1) (j + 1)) := by
            have hiT : i < T.length := by rw [← hW.out.kd.len]; exact HI.out
            refine ⟨kp, by rw [List.length_set]; exact hW.out.len, ?_, ?_, ?_, ?_⟩
            · rw [List.drop_set_of_lt (by omega)]; have h := congrArg (·.drop 1) hW.out.dd; simpa [List.drop_drop] using h
            · rw [List.drop_set_of_lt (by omega)]; have h := congrArg (·.drop 1) hW.out.td; simpa [List.drop_drop] using h
            · have hne : ¬ opOf kt = x := fun e => hx (HOP.out.trans e)
              rw [← List.take_append_getElem (by rw [List.length_set]; exact hiT), List.getElem_set_self, List.take_set_of_le (Nat.le_refl _), hW.out.tk, HF.out]
              simp [notOp, hne]
            · exact grown_same ⟨B5.out.os.trans hW.out.gr.os, B5.out.tape.trans hW.out.gr.tape, B5.out.output.trans hW.out.gr.output, Nat.le_trans hW.out.gr.size B5.out.size, fun k hk hne => (B5.out.block k (Nat.lt_of_lt_of_le hk hW.out.gr.size)).trans (hW.out.gr.block k hk hne)⟩ gp
          have c0 : w5.cell? ⟨b, i * 8, none⟩ = some (.int .i64 di.op) := cw5 0 (by omega)
          have c1 : w5.cell? ⟨b, i * 8 + 1, none⟩ = some (.int .u64 (uv (di.q 0))) := cw5 1 (by omega)
          have c2 : w5.cell? ⟨b, i * 8 + 2, none⟩ = some (.int .u64 (uv (di.q 1))) := cw5 2 (by omega)
          have c3 : w5.cell? ⟨b, i * 8 + 3, none⟩ = some (.int .u64 (uv (di.q 2))) := cw5 3 (by omega)
          have c4 : w5.cell? ⟨b, i * 8 + 4, none⟩ = some (.int .u64 (uv (di.q 3))) := cw5 4 (by omega)
          have c5 : w5.cell? ⟨b, i * 8 + 5, none⟩ = some (.int .i64 di.lo) := cw5 5 (by omega)
          have c6 : w5.cell? ⟨b, i * 8 + 6, none⟩ = some (.int .i64 di.hi) := cw5 6 (by omega)
          have c7 : w5.cell? ⟨b, i * 8 + 7, none⟩ = some (.slice di.A di.n di.c) := cw5 7 (by omega)
          have g0 := fw5 (i * 8); have g1 := fw5 (i * 8 + 1); have g2 := fw5 (i * 8 + 2); have g3 := fw5 (i * 8 + 3)
          have g4 := fw5 (i * 8 + 4); have g5 := fw5 (i * 8 + 5); have g6 := fw5 (i * 8 + 6); have g7 := fw5 (i * 8 + 7)
          have hin : i < n := by omega
          have qj : (i : Int) < (n : Int) := by omega
          clear cw5 fw5 hx hW kp gp
          go_wp2_with fail
          go_roundw
          case rel => exact ⟨i + 1, j + 1, D.set i dt, T.set i kt, by omega, by omega, by simp, by simp, R⟩
          case measure => simp [intOf]; omega
      · have qi : ¬ (j : Int) < (n : Int) := by omega
        have hj : j = n := by omega
        have hin : i < n := by omega
        have EF : Hid (T.take i = ts.filter (notOp x)) := by
          show _ = _
          rw [hW.out.tk, List.take_of_length_le (by rw [← HLN.out, HN.out]; omega)]
        have hown := hW.out.kd.own
        obtain ⟨L, hcl⟩ := run_clear_terms wr b (i * 8) (n - i) (c - i) (by omega) (fun k hk => by
          rw [World.ownsRow.cellAt hown (i * 8 + k) (by rw [hW.out.len]; omega), List.getElem?_eq_getElem (by rw [len_tcs, hW.out.len]; omega)]; rfl) (fun k _ => World.ownsRow.frozenAt hown _)
        have CU := Lib.hid (hW.out.cut (by omega) L)
        have G1 := Lib.hid hW.out.gr
        have LI : Hid ((D.take i).length = i) := by show _ = _; rw [List.length_take, hW.out.len]; omega
        have hnc : n ≤ c := by
          rcases hown.2 with ⟨h', _⟩ | ⟨g', cap', cur, h', _, _, hnc, _⟩
          · simp at h'
          · simp only [Value.slice.injEq, Option.some.injEq, Addr.mk.injEq, and_true, true_and] at h'
            rw [hW.out.len] at hnc; rw [h'.2]; exact hnc
        have hic : i < c := by omega
        have qic : (i : Int) < (c : Int) := by omega
        have qnc : (n : Int) ≤ (c : Int) := by omega
        clear hj hown hW
        go_wp2
        go_ret
        exact ⟨D.take i, by rw [LI.out]; rfl, by rw [← EF.out]; exact CU.out.1, grown_same G1.out CU.out.2⟩
  · have eF : ts.filter (notOp x) = ts := by
      rw [List.filter_eq_self]
      intro t ht
      obtain ⟨j, hj⟩ := List.getElem?_of_mem ht
      have hjd : j < ds.length := by rw [HLN.out]; exact (List.getElem?_eq_some_iff.1 hj).1
      have h1 := HO.out j _ t (List.getElem?_eq_getElem hjd) hj
      have h2 := hnone j _ (List.getElem?_eq_getElem hjd)
      rw [h1] at h2
      simp [notOp, h2]
    have EF := Lib.hid eF
    clear eF hnone
    go_wp2
    go_ret
    exact ⟨ds, by rw [HN.out]; rfl, by rw [EF.out]; exact K2.out, ⟨B2.out.os, B2.out.tape, B2.out.output, B2.out.size, fun k hk _ => B2.out.block k hk⟩⟩
set_option maxRecDepth 100000 in
set_option maxHeartbeats 1000000 in
theorem aroundV (op no : Int) (S : Nat → Prop) (A : Option Addr) (c : Nat) (ds : List TD) (ts : List Tm) (w : World) (hk : Kf w S A c ds ts) (h5 : ts.length ≤ 1048576) :
    Calls Try.prog 68 #[.int .i64 op, .slice A ds.length c, .int .i64 no] w fun e w' => ∃ d : TD, e = .returned d.val ∧ TV w' (fun k => S k ∨ some k = ow A) (around op ts no) d ∧ Below w.heap.size w w' := by
  have hl := hk.len
  match ts, ds, hl with
  | [], [], _ =>
    go_enter Try.func68, Try.ntmps68
    go_wp2
    refine bodyPost_ret (v := TD.val ⟨no, fun _ => 0#64, 0, 0, none, 0, 0⟩) ?_ rfl ?_
    · simp [results, Try.results68, go_sem, TD.val, uv]
    · exact ⟨_, rfl, .mk no noF 0 0 [] _ none 0 [] isk_no rfl (by simp) (fun i t d h => by simp at h) (fun h => by simp at h), below_new _ _⟩
  | [t], [d], _ =>
    obtain ⟨b, e, hrow⟩ := hk.own.row (by simp)
    subst e
    have hlt := hk.own.lt (k := b) rfl
    have hel := hk.el 0 t d rfl rfl
    have V : Hid (∀ W, Below w.heap.size w W → TV W (fun k => S k ∨ some k = ow (some ⟨b, 0, none⟩)) t d) := fun W hW => (hel.to fun k hk' => ⟨.inl hk'.1, fun hlt => hW.block k hlt⟩)
    have cc := fun j (hj : j < 8) => ((World.cell?_of_block (a := ⟨b, j, none⟩) ((below_new w (.cells #[.int .i64 0, .int .u64 0, .int .u64 0, .int .u64 0, .int .u64 0, .int .i64 0, .int .i64 0, .slice none 0 0] 29)).block b hlt)).trans (by have := hrow.cell (i := 0) (d := d) rfl j hj; simpa using this) : (w.alloc (.cells #[.int .i64 0, .int .u64 0, .int .u64 0, .int .u64 0, .int .u64 0, .int .i64 0, .int .i64 0, .slice none 0 0] 29)).cell? ⟨b, j, none⟩ = d.cells[j]?)
    have a0 : (w.alloc (.cells #[.int .i64 0, .int .u64 0, .int .u64 0, .int .u64 0, .int .u64 0, .int .i64 0, .int .i64 0, .slice none 0 0] 29)).cell? ⟨b, 0, none⟩ = some (.int .i64 d.op) := cc 0 (by omega)
    have a1 : (w.alloc (.cells #[.int .i64 0, .int .u64 0, .int .u64 0, .int .u64 0, .int .u64 0, .int .i64 0, .int .i64 0, .slice none 0 0] 29)).cell? ⟨b, 1, none⟩ = some (.int .u64 (uv (d.q 0))) := cc 1 (by omega)
    have a2 : (w.alloc (.cells #[.int .i64 0, .int .u64 0, .int .u64 0, .int .u64 0, .int .u64 0, .int .i64 0, .int .i64 0, .slice none 0 0] 29)).cell? ⟨b, 2, none⟩ = some (.int .u64 (uv (d.q 1))) := cc 2 (by omega)
    have a3 : (w.alloc (.cells #[.int .i64 0, .int .u64 0, .int .u64 0, .int .u64 0, .int .u64 0, .int .i64 0, .int .i64 0, .slice none 0 0] 29)).cell? ⟨b, 3, none⟩ = some (.int .u64 (uv (d.q 2))) := cc 3 (by omega)
    have a4 : (w.alloc (.cells #[.int .i64 0, .int .u64 0, .int .u64 0, .int .u64 0, .int .u64 0, .int .i64 0, .int .i64 0, .slice none 0 0] 29)).cell? ⟨b, 4, none⟩ = some (.int .u64 (uv (d.q 3))) := cc 4 (by omega)
    have a5 : (w.alloc (.cells #[.int .i64 0, .int .u64 0, .int .u64 0, .int .u64 0, .int .u64 0, .int .i64 0, .int .i64 0, .slice none 0 0] 29)).cell? ⟨b, 5, none⟩ = some (.int .i64 d.lo) := cc 5 (by omega)
    have a6 : (w.alloc (.cells #[.int .i64 0, .int .u64 0, .int .u64 0, .int .u64 0, .int .u64 0, .int .i64 0, .int .i64 0, .slice none 0 0] 29)).cell? ⟨b, 6, none⟩ = some (.int .i64 d.hi) := cc 6 (by omega)
    have a7 : (w.alloc (.cells #[.int .i64 0, .int .u64 0, .int .u64 0, .int .u64 0, .int .u64 0, .int .i64 0, .int .i64 0, .slice none 0 0] 29)).cell? ⟨b, 7, none⟩ = some (.slice d.A d.n d.c) := cc 7 (by omega)
    clear hk hrow hel cc
    simp only [List.length_singleton, List.length_cons, List.length_nil, Nat.zero_add] at *
    go_enter Try.func68, Try.ntmps68
    go_wp2
    refine bodyPost_ret (v := TD.val d) ?_ rfl ?_
    · simp [results, Try.results68, go_sem, TD.val]
    · exact ⟨d, rfl, V.out _ (below_new _ _), below_new _ _⟩
  | t0 :: t1 :: ts, d0 :: d1 :: ds, hl =>
    obtain ⟨m, hm⟩ : ∃ m, (d0 :: d1 :: ds).length = m := ⟨_, rfl⟩
    have h2 : 2 ≤ m := by simp at hm; omega
    have V : Hid (∀ W, Below w.heap.size w W → TV W (fun k => S k ∨ some k = ow A) (around op (t0 :: t1 :: ts) no) ⟨op, fun _ => 0#64, 0, 0, A, m, c⟩) := fun W hW => by
      have : TV w (fun k => S k ∨ some k = ow A) (around op (t0 :: t1 :: ts) no) ⟨op, fun _ => 0#64, 0, 0, A, (d0 :: d1 :: ds).length, c⟩ := by
        rw [hk.len]
        refine .mk op noF 0 0 _ _ A c _ isk_no hk.len h5 (fun i t d h1 h2 => (hk.el i t d h1 h2).to fun k hk => ⟨.inl hk.1, fun _ => rfl⟩) fun h0 => ?_
        obtain ⟨b, e, hr⟩ := hk.own.row (by rw [hk.len]; exact h0)
        exact ⟨b, e, .inr (by rw [e]; rfl), hr⟩
      rw [hm] at this
      exact this.keeps hW
    rw [hm]
    have q1 : ((m : Int) == 0) = false := by rw [beq_eq_false_iff_ne]; omega
    have q2 : ((m : Int) == 1) = false := by rw [beq_eq_false_iff_ne]; omega
    clear hk hm hl h5
    go_enter Try.func68, Try.ntmps68
    go_wp2
    refine bodyPost_ret (v := TD.val ⟨op, fun _ => 0#64, 0, 0, A, m, c⟩) ?_ rfl ?_
    · simp [results, Try.results68, go_sem, TD.val, uv]
    · exact ⟨_, rfl, V.out _ (below_new _ _), below_new _ _⟩
end Kx
end Go.Proofs.Ytkljagffccommaa
namespace Go.Proofs.Ytkljagffccommaa
open Go.RowKit
set_option maxRecDepth 100000 in
set_option maxHeartbeats 8000000 in
theorem row_any : Lc 41 sRow := by
  intro M A c ds ts w hM hk h5
  have hlen := hk.len
  have hany : (ds.any fun d => d.op == 9) = ts.any isNo := by
    rw [Bool.eq_iff_iff, List.any_eq_true, List.any_eq_true]
    constructor
    · rintro ⟨d, hd, hx⟩
      obtain ⟨j, hj⟩ := List.getElem?_of_mem hd
      have hjt : j < ts.length := by rw [← hlen]; exact (List.getElem?_eq_some_iff.1 hj).1
      have := op_tv (hk.el j _ d (List.getElem?_eq_getElem hjt) hj)
      exact ⟨ts[j], List.getElem_mem hjt, by unfold isNo; rw [← this]; simpa using hx⟩
    · rintro ⟨t, ht, hx⟩
      obtain ⟨j, hj⟩ := List.getElem?_of_mem ht
      have hjd : j < ds.length := by rw [hlen]; exact (List.getElem?_eq_some_iff.1 hj).1
      have := op_tv (hk.el j t _ hj (List.getElem?_eq_getElem hjd))
      exact ⟨ds[j], List.getElem_mem hjd, by unfold isNo at hx; rw [this]; simpa using hx⟩
  have T0 : Hid (TB (w.alloc (.cells #[.int .i64 0, .int .u64 0, .int .u64 0, .int .u64 0, .int .u64 0, .int .i64 0, .int .i64 0, .slice none 0 0] 29)) w.heap.size zT) := TB.new w zT
  have B0 : Hid (Below w.heap.size w (w.alloc (.cells #[.int .i64 0, .int .u64 0, .int .u64 0, .int .u64 0, .int .u64 0, .int .i64 0, .int .i64 0, .slice none 0 0] 29))) := below_new _ _
  have hD1 := isop_any 9 (w.alloc (.cells #[.int .i64 0, .int .u64 0, .int .u64 0, .int .u64 0, .int .u64 0, .int .i64 0, .int .i64 0, .slice none 0 0] 29))
  rw [World.size_alloc] at hD1
  have D1 := Lib.hid hD1
  have K0 := Lib.hid (Kx.kf_of hk)
  have OL : Hid (∀ k, ow A = some k → M ≤ k ∧ k < w.heap.size) := fun k e => ⟨hk.blk k e, hk.own.lt e⟩
  have H5 := Lib.hid h5; have HN := Lib.hid hlen; have HY := Lib.hid hany
  obtain ⟨n, hnn⟩ : ∃ n, ds.length = n := ⟨_, rfl⟩
  rw [hnn]
  have HD := Lib.hid hnn
  clear hk hlen hany hD1 h5 hnn
  go_enter Try.func41, Try.ntmps41
  go_wp2_with fail
  refine D1.out.mono ?_
  rintro e w2 ⟨rfl, hp2, hl2, hb2⟩
  have B2 := Lib.hid (B0.out.trans (hb2.mono (by simp)))
  have T2 := Lib.hid (T0.out.below (hb2.mono (by simp)))
  have K2 := Lib.hid (K0.out.below B2.out)
  have hD2 := contains_any 9 (w.heap.size + 1) A c ds w2 K2.out.rowAt (by have := H5.out; rw [HN.out]; omega) hp2 (by omega)
  rw [HD.out, HY.out] at hD2
  have D2 := Lib.hid hD2
  clear D1 hp2 hl2 hb2 B0 T0 K0 hD2
  obtain ⟨v, hv⟩ : ∃ v, ts.any isNo = v := ⟨_, rfl⟩
  rw [hv] at D2
  have HV := Lib.hid hv
  clear hv
  go_wp2_with fail
  refine D2.out.mono ?_
  rintro e w3 ⟨rfl, hb3⟩
  have B3 := Lib.hid (B2.out.trans (hb3.mono B2.out.size))
  have T3 := Lib.hid (T2.out.below hb3)
  have K3 := Lib.hid (K2.out.below hb3)
  clear D2 hb3 B2 T2 K2
  cases v with
  | true =>
    have R : Hid (sRow ts = .mk 9 noF 0 0 []) := by show _ = _; unfold sRow; rw [if_pos HV.out]; rfl
    obtain ⟨⟨r0, r1, r2, r3, r4, r5, r6, r7⟩, g0, g1, g2, g3, g4, g5, g6, g7⟩ := T3.out.all
    go_wp2
    refine bodyPost_ret (v := TD.val ⟨9, fun _ => 0#64, 0, 0, none, 0, 0⟩) ?_ rfl ?_
    · simp [results, Try.results41, go_sem, TD.val, uv, r0, r1, r2, r3, r4, r5, r6, r7]
    · rw [R.out]
      have b := bel8 B3.out (Nat.le_refl w.heap.size) (.int .i64 9) (.int .u64 0) (.int .u64 0) (.int .u64 0) (.int .u64 0) (.int .i64 0) (.int .i64 0) (.slice none 0 0)
      exact ⟨_, rfl, .mk 9 noF 0 0 [] _ none 0 [] isk_no rfl (by simp) (fun i t d h => by simp at h) (fun h => by simp at h), b.os, b.tape, b.output, b.size, fun k hk _ => b.block k hk⟩
  | false =>
    have R : Hid (sRow ts = around 6 (ts.filter (notOp 1)) 1) := by show _ = _; unfold sRow; rw [if_neg (by rw [HV.out]; simp)]; rfl
    have D3 := Lib.hid (isop_any 1 w3)
    have s3 : w.heap.size < w3.heap.size := T3.out.lt
    go_wp2_with fail
    refine D3.out.mono ?_
    rintro e w4 ⟨rfl, hp4, hl4, hb4⟩
    have B4 := Lib.hid (B3.out.trans (hb4.mono B3.out.size))
    have T4 := Lib.hid (T3.out.below hb4)
    have K4 := Lib.hid (K3.out.below hb4)
    have hD4 := Kx.delete_any 1 w3.heap.size (Sn M w) A c ds ts w4 K4.out (by have := H5.out; rw [HN.out]; omega) hp4 hl4 (fun e => by have := (OL.out _ e.symm).2; omega)
    rw [HD.out] at hD4
    have D4 := Lib.hid hD4
    clear D3 hp4 hl4 hb4 B3 T3 K3 K4 hD4
    go_wp2_with fail
    refine D4.out.mono ?_
    rintro e w5 ⟨ds5, rfl, kf5, g5⟩
    have T5 : Hid (TB w5 w.heap.size zT) := (g5.block _ T4.out.lt (fun e => by have := (OL.out _ e.symm).2; omega)).trans T4.out
    have G5 : Hid (w.grownBy w5 (ow A)) := ⟨g5.os.trans B4.out.os, g5.tape.trans B4.out.tape, g5.output.trans B4.out.output, Nat.le_trans B4.out.size g5.size, fun k hk hne => (g5.block k (Nat.lt_of_lt_of_le hk B4.out.size) hne).trans (B4.out.block k hk)⟩
    have D5 := Lib.hid (Kx.aroundV 6 1 (Sn M w) A c ds5 (ts.filter (notOp 1)) w5 kf5 (by have := H5.out; have := List.length_filter_le (notOp 1) ts; omega))
    clear D4 kf5 g5 B4 T4
    generalize ds5.length = n5 at *
    go_wp2_with fail
    refine D5.out.mono ?_
    rintro e w6 ⟨d6, rfl, hv6, hb6⟩
    have T6 := Lib.hid (T5.out.below hb6)
    have G6 := Lib.hid (grown_below G5.out hb6)
    have V6 := Lib.hid hv6
    clear D5 hv6 hb6 T5 G5
    obtain ⟨⟨r0, r1, r2, r3, r4, r5, r6, r7⟩, g0, g1, g2, g3, g4, g5, g6, g7⟩ := T6.out.all
    unfold TD.val
    go_wp2
    refine bodyPost_ret (v := TD.val d6) ?_ rfl ?_
    · simp [results, Try.results41, go_sem, TD.val, r0, r1, r2, r3, r4, r5, r6, r7]
    · rw [R.out]
      have b := bel8 (Below.refl w.heap.size w6) (Nat.le_refl w.heap.size) (.int .i64 d6.op) (.int .u64 (uv (d6.q 0))) (.int .u64 (uv (d6.q 1))) (.int .u64 (uv (d6.q 2))) (.int .u64 (uv (d6.q 3))) (.int .i64 d6.lo) (.int .i64 d6.hi) (.slice d6.A d6.n d6.c)
      refine ⟨d6, rfl, V6.out.to fun k hk => ?_, ⟨b.os.trans G6.out.os, b.tape.trans G6.out.tape, b.output.trans G6.out.output, Nat.le_trans G6.out.size b.size, fun k hk hne => (b.block k hk).trans (G6.out.block k hk hne)⟩⟩
      have hk2 : M ≤ k ∧ k < w.heap.size := by
        rcases hk with hk | hk
        · exact hk
        · exact OL.out k hk.symm
      exact ⟨⟨hk2.1, lt_set8 (Nat.lt_of_lt_of_le hk2.2 G6.out.size)⟩, fun _ => set8_heap _ _ _ _ _ _ _ _ _ _ _ (by omega)⟩
end Go.Proofs.Ytkljagffccommaa
