/- PackReads: its walk. -/
import Derived.Test.YtmjhmjbbfklbdaaE3
import Derived.Test.YtmjhmjbbfklbdaaW2
namespace Go.Proofs.Ytmjhmjbbfklbdaa
open Go.RowKit

theorem Bts.blocks {w w' : World} {A : Option Addr} {l : List Nat} (h : Bts w A l) (hs : w.heap.size ≤ w'.heap.size) (hb : 0 < l.length → ∀ k, ow A = some k → k < w.heap.size → w'.heap[k]? = w.heap[k]?) : Bts w' A l :=
  ⟨h.1, fun h0 => by
    have hb := hb h0
    obtain ⟨b, off, rfl, hlt, hc⟩ := h.2 h0
    refine ⟨b, off, rfl, Nat.lt_of_lt_of_le hlt hs, fun j hj => ?_⟩
    rw [World.cell?_of_block (a := ⟨b, off + j, none⟩) (hb b rfl hlt)]
    exact hc j hj⟩
theorem Bts.old {w : World} {A : Option Addr} {l : List Nat} (h : Bts w A l) (h0 : 0 < l.length) {k : Nat} (e : ow A = some k) : k < w.heap.size := by
  obtain ⟨b, off, rfl, hlt, _⟩ := h.2 h0
  have : b = k := by simpa [ow] using e
  omega
theorem Eye.blocks {w w' : World} {x c : Nat} {A : Option Addr} {l : List Nat} (h : Eye w x A c l) (hs : w.heap.size ≤ w'.heap.size) (h1 : w'.heap[x]? = w.heap[x]?) (hb : 0 < l.length → ∀ k, ow A = some k → k < w.heap.size → w'.heap[k]? = w.heap[k]?) : Eye w' x A c l :=
  ⟨h1.trans h.1, h.2.1.blocks hs hb, h.2.2⟩
/-- both eyes, as far read: their blocks, and what is left -/
structure Two (w0 w : World) (x m : Nat) (D : Option Addr) (c : Nat) (d : List Nat) (A : Option Addr) (ca : Nat) (l : List Nat) (I : Nat) : Prop where
  eye : Eye w x A ca l
  ref : REye w m D c d I
  left : l = sub d I d.length
  le : I ≤ d.length
  ne : x ≠ m
  far : 0 < l.length → ow A ≠ some m
  gx : w0.heap.size ≤ x
  gm : w0.heap.size ≤ m
  ga : ∀ k, ow A = some k → w0.heap.size ≤ k
  below : Below w0.heap.size w0 w
section
variable {w0 w w' : World} {x m c ca I : Nat} {D A : Option Addr} {d l : List Nat}
theorem Two.step (h : Two w0 w x m D c d A ca l I) (hb : Below w.heap.size w w') : Two w0 w' x m D c d A ca l I :=
  ⟨h.eye.below hb, h.ref.below hb, h.left, h.le, h.ne, h.far, h.gx, h.gm, h.ga, h.below.trans (hb.mono h.below.size)⟩
theorem Two.len (h : Two w0 w x m D c d A ca l I) : l.length = d.length - I := by rw [h.left, len_sub _ _ _ (by omega)]
/-- a row that neither eye holds is written -/
theorem Two.grown (h : Two w0 w x m D c d A ca l I) {r : Option Nat} (hg : w.grownBy w' r) (hx : r ≠ some x) (hm : r ≠ some m) (hA : 0 < l.length → ∀ k, ow A = some k → r ≠ some k) (h0 : ∀ k, r = some k → w0.heap.size ≤ k) : Two w0 w' x m D c d A ca l I :=
  ⟨h.eye.blocks hg.size (hg.block x h.eye.lt (fun e => hx e.symm)) (fun hl k hk hlt => hg.block k hlt (fun e => hA hl k hk e.symm)), (hg.block m h.ref.lt (fun e => hm e.symm)).trans h.ref, h.left, h.le, h.ne, h.far, h.gx, h.gm, h.ga, h.below.trans (grown_below hg h0 h.below.size)⟩
end
section
variable {w0 w w' w'' : World} {x m c ca c' I J : Nat} {D A A' : Option Addr} {d l l' : List Nat}
theorem Two.next (h : Two w0 w x m D c d A ca l I) (he : Eye w' x A' c' l') (ho : ow A' = ow A) (hb : Below w0.heap.size w0 w') (hlen : l'.length ≤ l.length) (hr : REye w'' m D c d J) (hf : Fr w' w'' m none) (hJ : J ≤ d.length) (hl : l' = sub d J d.length) : Two w0 w'' x m D c d A' c' l' J :=
  ⟨he.blocks hf.size (hf.block x he.lt h.ne (fun e => by cases e)) (fun h0 k hk hlt => hf.block k hlt (fun e => h.far (by omega) (by rw [← ho, hk, e])) (fun e => by cases e)), hr, hl, hJ, h.ne, fun h0 e => h.far (by omega) (by rw [← ho, e]), h.gx, h.gm, fun k hk => h.ga k (by rw [← ho, hk]), hb.trans (hf.below (B := w0.heap.size) h.gm (fun k hk => by cases hk) hb.size)⟩
theorem len_sub_le (l : List Nat) (a b : Nat) : (sub l a b).length ≤ l.length := by unfold sub; simp; omega
theorem len_rul (l : List Nat) (sz : Int) : (rul l sz).length ≤ l.length := by unfold rul; split; exact len_sub_le _ _ _; exact Nat.le_refl _
theorem len_rbl (l : List Nat) : (rbl l).length ≤ l.length := by unfold rbl; split; exact len_sub_le _ _ _; exact Nat.le_refl _
end
/-- an eye with so much left -/
def Fact21 (W : World) (x : Nat) (z : Int) : Prop := ∃ A c l, Eye W x A c l ∧ (l.length : Int) = z ∧ l.length ≤ 140737488355328
theorem quiet21 (x : Nat) (z : Int) (W : World) (m : Nat) (h : Fact21 W x z) : Calls Try.prog 21 #[.pointer (some ⟨x, 0, none⟩)] (W.drewN m) fun e w' => e = .returned (.int .i64 z) ∧ ∃ m', w' = W.drewN m' := by
  obtain ⟨A, c, l, he, rfl, hl⟩ := h
  exact (left_any x A c l (W.drewN m) (he.drewN m) hl).mono fun e w' ⟨h1, h2⟩ => ⟨h1, m, h2.symm⟩
theorem Two.drewN {w0 w : World} {x m c ca I : Nat} {D A : Option Addr} {d l : List Nat} (h : Two w0 w x m D c d A ca l I) (n : Nat) : Two w0 (w.drewN n) x m D c d A ca l I :=
  ⟨h.eye, h.ref, h.left, h.le, h.ne, h.far, h.gx, h.gm, h.ga, ⟨h.below.os, h.below.tape, h.below.output, h.below.size, h.below.block⟩⟩
set_option maxRecDepth 100000 in
set_option maxHeartbeats 4000000 in
theorem packReads_walk (D A : Option Addr) (c ca : Nat) (d : List Nat) (os : List OpD) (w : World) (hd : Bts w D d) (hD : D = none → c = 0) (hc : d.length ≤ c) (ld : d.length ≤ 140737488351232) (hO : Ops w A os) (hl : os.length ≤ 140737488351232) :
    Calls Try.prog 4 #[.slice D d.length c, .slice A os.length ca] w fun e w' => e = .returned (.bool true) ∧ Below w.heap.size w w' := by
  have S := Lib.hid (speaks_any w)
  have HO := Lib.hid hO; have HD := Lib.hid hd; have ND := Lib.hid hD; have CD := Lib.hid hc
  clear hO hd hD hc
  go_enter Try.func4, Try.ntmps4
  go_wp2_with fail
  refine S.out.mono ?_
  rintro e w1 ⟨rfl, hb1⟩
  have B1 := Lib.hid hb1
  have sz1 := hb1.size
  have X1 := Lib.hid (HD.out.below hb1)
  clear hb1 S
  go_wp2_with (at_builtin; refine app_copyN w1.heap.size rfl rfl (.tmp 22) (.tmp 23) rfl D c d X1.out ND.out (by omega) rfl rfl ?_)
  intro Ai ci w2 hy2 hn2 hb2
  have Y2 : Hid (Own w2 Ai ci d) := ⟨hy2.mono (Nat.zero_le _), bn_mem X1.out.1, hn2⟩
  have GI : Hid (∀ j, ow Ai = some j → w1.heap.size ≤ j) := fun j hj => (hy2.lt j (by rw [ow_own, hj])).1
  have B2 := step_below B1 hb2
  have D1 := Lib.hid (newEye_any Ai ci d w2 Y2.out.bts hn2 (by omega))
  clear hy2 hn2 hb2 B1 X1
  go_wp2_with fail
  with_reducible refine D1.out.mono ?_
  rintro e w3 ⟨x, Ae, ce, rfl, he, hx, hae, hb3⟩
  have Y3 := step_own Y2 hb3
  have B3 := step_below B2 hb3
  have B4 := step_below B3 (below_new w3 (.cells #[.slice D d.length c, .int .i64 0] 43))
  have Y4 := step_own Y3 (below_new w3 (.cells #[.slice D d.length c, .int .i64 0] 43))
  have TW : Hid (Two w (w3.alloc (.cells #[.slice D d.length c, .int .i64 0] 43)) x w3.heap.size D c d Ae ce d 0) :=
    ⟨he.below (below_new _ _), heap_alloc_new w3 _, by unfold sub; simp, by omega, by have := he.lt; omega, fun h0 e => by have := he.2.1.old h0 e; omega, by have := B2.out.size; omega, by have := B3.out.size; omega, fun k hk => by have := hae k hk; have := B2.out.size; omega, B4.out⟩
  have NX : Hid (∀ k, ow Ai = some k → k < w2.heap.size) := fun k hk => Y2.out.lt hk
  have NE := Lib.hid hae; have NH := Lib.hid hx; have NS := Lib.hid hb3.size
  clear he hx hae hb3 D1 Y2 B2 Y3 B3
  go_wp2_with fail
  have FX : Hid (∀ k, ow Ai = some k → k ≠ x ∧ k ≠ w3.heap.size ∧ ow Ae ≠ some k ∧ w.heap.size ≤ k) := fun k hk => by
    have h1 := NX.out k hk; have h2 := NH.out; have h3 := NS.out; have h4 := GI.out k hk
    exact ⟨by omega, by omega, fun e => by have := NE.out k e; omega, by omega⟩
  clear NX NE NH NS GI
  generalize hm : w3.heap.size = m at *
  generalize hw4 : w3.alloc (.cells #[.slice D d.length c, .int .i64 0] 43) = w4 at *
  go_loopw [34] (fun i wi => ∃ (j : Nat) (dl : List Nat), j ≤ d.length ∧ i = .int .i64 j ∧ Hid (dl.length = d.length) ∧ Own wi Ai ci dl ∧ w4.grownBy wi (ow Ai)) (fun i _ => d.length - (intOf i).toNat)
  case atStart => exact ⟨0, d, by omega, rfl, rfl, Y4.out, grown_refl _ _⟩
  case round =>
    obtain ⟨j, dl, hj, rfl, hdl, hod, hgd⟩ := hrel
    by_cases hjl : j < d.length
    · obtain ⟨gd, rfl⟩ := own_addr hod (by have := hdl.out; omega)
      obtain ⟨c1, f1⟩ := hod.at_ j (by have := hdl.out; omega)
      obtain ⟨st1, st2⟩ := hod.over j 238 (by omega)
      have T1 := Lib.hid st1; have T2 := Lib.hid (hgd.trans st2)
      clear hod hgd st1 st2
      go_wp2_with fail
      go_roundw
      case rel => exact ⟨j + 1, _, by omega, by go_num, (by show (dl.set j 238).length = _; rw [List.length_set]; exact hdl.out), T1.out, T2.out⟩
      case measure => simp [intOf]; omega
    · obtain rfl : j = d.length := by omega
      have T0 := Lib.hid (TW.out.grown hgd (fun e => (FX.out _ e).1 rfl) (fun e => (FX.out _ e).2.1 rfl) (fun _ k hk e => (FX.out _ e).2.2.1 hk) (fun k e => (FX.out _ e).2.2.2))
      clear hod hgd hdl FX TW Y4 B4 hw4 hm
      go_wp2_with fail
      go_loopw [43] (fun i wr => ∃ (k : Nat) (Ae : Option Addr) (ce : Nat) (l : List Nat) (I : Nat), k ≤ os.length ∧ i = .int .i64 k ∧ Two w wr x m D c d Ae ce l I) (fun i _ => os.length - (intOf i).toNat)
      case atStart => exact ⟨0, _, _, d, 0, by omega, rfl, T0.out⟩
      case round =>
        obtain ⟨k, Ae, ce, l, I, hk, rfl, ht⟩ := hrel
        clear T0
        by_cases hlt : k < os.length
        · obtain ⟨o, ho⟩ : ∃ o, os[k]? = some o := ⟨_, List.getElem?_eq_getElem hlt⟩
          have hmem : o ∈ os := List.mem_of_getElem? ho
          obtain ⟨hB, hN, hn, hs1, hs2, hk1, hk2⟩ := HO.out.1 o hmem
          obtain ⟨b, off, rfl, hbl, hcells⟩ := HO.out.2 (by omega)
          obtain ⟨q0, q1, q2, q3⟩ := hcells k o ho
          have hb := ht.below
          have a0 := (hb.cell (p := ⟨b, off + k * 4, none⟩) hbl).trans q0
          have a1 := (hb.cell (p := ⟨b, off + k * 4 + 1, none⟩) hbl).trans q1
          have a2 := (hb.cell (p := ⟨b, off + k * 4 + 2, none⟩) hbl).trans q2
          have a3 := (hb.cell (p := ⟨b, off + k * 4 + 3, none⟩) hbl).trans q3
          have Z1 := Lib.hid (Zb.new wr o)
          have T1 := Lib.hid (ht.step (below_new wr (.cells #[.int .i64 o.kd, .int .i64 o.sz, .int .u64 (o.n : Nat), .slice o.A o.bs.length o.c] 30)))
          have xl := ht.eye.lt
          have ml := ht.ref.lt
          have hand := i64_and1 o.kd
          have z0 := Z1.out.cells.1
          have z1 := Z1.out.cells.2.1
          have ll : l.length ≤ d.length := by rw [ht.len]; omega
          clear hcells q0 q1 q2 q3 ho hmem hb ht hB hN
          by_cases heven : o.kd % 2 = 0
          · rw [heven] at hand
            have D1 := Lib.hid (eyeUint_any x Ae ce l o.sz _ T1.out.eye (by omega))
            have D2 : Hid (∀ W, REye W m D c d I → Below w.heap.size w W → Calls Try.prog 18 #[.pointer (some ⟨m, 0, none⟩), .int .i64 o.sz] W (ReadU2 W m D c d (sub d I d.length) o.sz)) := fun W h hW => eye2Uint_any m D c d I o.sz W h (HD.out.below hW) ND.out CD.out T1.out.le (by omega) hs1 hs2
            rw [← T1.out.left] at D2
            clear heven
            go_wp2_with fail
            with_reducible refine D1.out.mono ?_
            rintro e w2 ⟨rfl, A2, c2, l2, hl2, he2, hg2, ho2⟩
            have R2 : Hid (REye w2 m D c d I) := (hg2.block m T1.out.ref.lt (fun e => by injection e with e; exact T1.out.ne e.symm)).trans T1.out.ref
            have B2 : Hid (Below w.heap.size w w2) := T1.out.below.trans (grown_below hg2 (fun k hk => by injection hk with hk; have := T1.out.gx; omega) T1.out.below.size)
            have Z2 : Hid (Zb w2 wr.heap.size o) := (hg2.block _ Z1.out.lt (fun e => by injection e with e; omega)).trans Z1.out
            have z1' := Z2.out.cells.2.1
            have D3 := Lib.hid (D2.out w2 R2.out B2.out)
            have E2 := Lib.hid he2
            clear z0 z1 Z1 D1 D2 hg2 he2
            go_wp2_with fail
            with_reducible refine D3.out.mono ?_
            rintro e w3 ⟨rfl, J, hJ, hJd, hr3, hf3⟩
            have T3 := Lib.hid (T1.out.next E2.out ho2 B2.out (by rw [hl2.out]; exact len_rul _ _) hr3 hf3 hJd (by rw [hl2.out, hJ.out]))
            clear D3 E2 R2 B2 Z2 z1' hr3 hf3 hJ hl2 ho2 T1
            generalize ruv l o.sz = v at *
            generalize ruc l o.sz = code at *
            go_wp2_with fail
            have c1 := T3.out.ref.cell1
            have Jd := T3.out.le
            have q4 : IntKind.i64.wrap ((d.length : Int) - (J : Int)) = (d.length : Int) - (J : Int) := IntWalk.i64_in _ (by omega)
            have F1 : Hid (Fact21 w3 x ((d.length : Int) - (J : Int))) := ⟨_, _, _, T3.out.eye, by rw [T3.out.len]; omega, by rw [T3.out.len]; omega⟩
            go_quiet ((go_at_call 21; with_reducible exact quiet21 _ _ _ _ (by exact F1.out)))
            have T4 := Lib.hid (T3.out.drewN nq)
            clear T3 F1 c1
            go_wp2_with fail
            go_roundw
            case rel => exact ⟨k + 1, A2, c2, l2, J, by omega, by go_num, T4.out⟩
            case measure => simp [intOf]; omega
          · have h1 : o.kd % 2 = 1 := by omega
            rw [h1] at hand
            have D1 := Lib.hid (eyeBytes_any x Ae ce l _ T1.out.eye (by omega))
            have D2 : Hid (∀ W, REye W m D c d I → Below w.heap.size w W → Calls Try.prog 20 #[.pointer (some ⟨m, 0, none⟩)] W (ReadB2 W m D c d (sub d I d.length))) := fun W h hW => eye2Bytes_any m D c d I W h (HD.out.below hW) ND.out CD.out T1.out.le (by omega)
            rw [← T1.out.left] at D2
            clear heven h1
            go_wp2_with fail
            with_reducible refine D1.out.mono ?_
            rintro e w2 ⟨Ad, cd, A2, c2, l2, bd, rfl, hbd, hod, hfd, hl2, he2, hf2, ho2⟩
            have R2 : Hid (REye w2 m D c d I) := (hf2.block m T1.out.ref.lt (fun e => T1.out.ne e.symm) (fun e => by cases e)).trans T1.out.ref
            have B2 : Hid (Below w.heap.size w w2) := T1.out.below.trans (hf2.below (B := w.heap.size) T1.out.gx (fun k hk => by cases hk) T1.out.below.size)
            have D3 := Lib.hid (D2.out w2 R2.out B2.out)
            have E2 := Lib.hid he2
            have O2 := Lib.hid hod
            have l2l : l2.length ≤ l.length := by rw [hl2.out]; exact len_rbl _
            have bdl : bd.length ≤ d.length := by rw [hbd.out]; unfold rbb; split; exact Nat.le_trans (len_sub_le _ _ _) ll; simp
            have FD : Hid (∀ k, ow Ad = some k → k ≠ x ∧ k ≠ m ∧ (0 < l2.length → ow A2 ≠ some k) ∧ w.heap.size ≤ k) := fun k hk => by
              have h1 := hfd k hk; have h2 := T1.out.eye.lt; have h3 := T1.out.ref.lt; have h4 := T1.out.below.size
              exact ⟨by omega, by omega, fun h0 e => by have := T1.out.eye.2.1.old (k := k) (by omega) (by rw [← ho2, e]); omega, by omega⟩
            clear z0 z1 Z1 D1 D2 hf2 he2 hod hfd
            go_wp2_with fail
            with_reducible refine D3.out.mono ?_
            rintro e w3 ⟨Ar, cr, br, J, rfl, hbr, hor, hJ, hJd, hr3, hf3⟩
            obtain rfl : br = bd := hbr.out.trans hbd.out.symm
            have T3 := Lib.hid (T1.out.next E2.out ho2 B2.out l2l hr3 hf3 hJd (by rw [hl2.out, hJ.out]))
            have O3 : Hid (Own w3 Ad cd br) := O2.out.fr hf3 (fun e => (FD.out _ e).2.1 rfl) (by cases e : ow Ad with
              | none => exact .inl rfl
              | some k => exact .inr (fun h => by cases h))
            have v1 := conv_bts cd O3.out.bts
            have v2 := conv_bts cr hor
            clear D3 E2 R2 B2 hr3 hf3 hJ hl2 ho2 T1 O2 hbr hbd hor
            generalize strN br = sb at *
            generalize rbc l = code at *
            go_wp2_with fail
            clear v1 v2
            go_loopw [95] (fun i wi => ∃ (j : Nat) (dl : List Nat), j ≤ br.length ∧ i = .int .i64 j ∧ Hid (dl.length = br.length) ∧ Own wi Ad cd dl ∧ w3.grownBy wi (ow Ad)) (fun i _ => br.length - (intOf i).toNat)
            case atStart => exact ⟨0, br, by omega, rfl, rfl, O3.out, grown_refl _ _⟩
            case round =>
              obtain ⟨j, dl, hj, rfl, hdl, hod, hgd⟩ := hrel
              by_cases hjl : j < br.length
              · obtain ⟨gd, rfl⟩ := own_addr hod (by have := hdl.out; omega)
                obtain ⟨c1, f1⟩ := hod.at_ j (by have := hdl.out; omega)
                obtain ⟨st1, st2⟩ := hod.over j 238 (by omega)
                have T1 := Lib.hid st1; have T2 := Lib.hid (hgd.trans st2)
                clear hod hgd st1 st2
                go_wp2_with fail
                go_roundw
                case rel => exact ⟨j + 1, _, by omega, by go_num, (by show (dl.set j 238).length = _; rw [List.length_set]; exact hdl.out), T1.out, T2.out⟩
                case measure => simp [intOf]; omega
              · obtain rfl : j = br.length := by omega
                have T5 := Lib.hid (T3.out.grown hgd (fun e => (FD.out _ e).1 rfl) (fun e => (FD.out _ e).2.1 rfl) (fun h0 k hk e => (FD.out _ e).2.2.1 h0 hk) (fun k e => (FD.out _ e).2.2.2))
                clear hod hgd hdl FD T3 O3
                go_wp2_with fail
                have c1 := T5.out.ref.cell1
                have Jd := T5.out.le
                have q4 : IntKind.i64.wrap ((d.length : Int) - (J : Int)) = (d.length : Int) - (J : Int) := IntWalk.i64_in _ (by omega)
                have F1 : Hid (Fact21 wr x ((d.length : Int) - (J : Int))) := ⟨_, _, _, T5.out.eye, by rw [T5.out.len]; omega, by rw [T5.out.len]; omega⟩
                go_quiet ((go_at_call 21; with_reducible exact quiet21 _ _ _ _ (by exact F1.out)))
                have T6 := Lib.hid (T5.out.drewN nq)
                clear T5 F1 c1
                go_wp2_with fail
                go_roundw
                case rel => exact ⟨k + 1, A2, c2, l2, J, by omega, by go_num, T6.out⟩
                case measure => simp [intOf]; omega
        · obtain rfl : k = os.length := by omega
          have BB := Lib.hid ht.below
          clear ht
          go_wp2
          go_ret
          exact ⟨rfl, BB.out⟩
end Go.Proofs.Ytmjhmjbbfklbdaa
