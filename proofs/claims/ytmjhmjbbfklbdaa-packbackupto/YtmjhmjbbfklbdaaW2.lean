/- PackWrites: its walk. -/
import Derived.Test.YtmjhmjbbfklbdaaW1
import Derived.Test.YtmjhmjbbfklbdaaK5
namespace Go.Proofs.Ytmjhmjbbfklbdaa
open Go.RowKit

theorem step_pen {W w' : World} {g c : Nat} {A : Option Addr} {l : List Nat} (h : Hid (Pen W g A c l)) (hb : Below W.heap.size W w') : Hid (Pen w' g A c l) := h.out.below hb
/-- block z is the copy of a call of the script -/
def Zb (w : World) (z : Nat) (o : OpD) : Prop := w.heap[z]? = some (.cells #[.int .i64 o.kd, .int .i64 o.sz, .int .u64 (o.n : Nat), .slice o.A o.bs.length o.c] 30 (0, 0))
theorem Zb.lt {w : World} {z : Nat} {o : OpD} (h : Zb w z o) : z < w.heap.size := by
  rcases Nat.lt_or_ge z w.heap.size with hlt | hge
  · exact hlt
  · unfold Zb at h; rw [Array.getElem?_eq_none hge] at h; cases h
theorem Zb.cells {w : World} {z : Nat} {o : OpD} (h : Zb w z o) : w.cell? ⟨z, 0, none⟩ = some (.int .i64 o.kd) ∧ w.cell? ⟨z, 1, none⟩ = some (.int .i64 o.sz) ∧ w.cell? ⟨z, 2, none⟩ = some (.int .u64 (o.n : Nat)) ∧ w.cell? ⟨z, 3, none⟩ = some (.slice o.A o.bs.length o.c) := by
  refine ⟨?_, ?_, ?_, ?_⟩ <;> rw [cell_of_row w z _ _ 30 (0, 0) h] <;> rfl
theorem step_zb {W w' : World} {z : Nat} {o : OpD} (h : Hid (Zb W z o)) (hb : Below W.heap.size W w') : Hid (Zb w' z o) := (hb.block z h.out.lt).trans h.out
theorem Zb.fr {w w' : World} {z g c : Nat} {o : OpD} {A : Option Addr} {l : List Nat} (h : Zb w z o) (hp : Pen w g A c l) (hf : Fr w w' g (ow A)) : Zb w' z o :=
  (hf.block z h.lt (fun e => by
    subst e
    have h1 := hp.1
    unfold Zb at h
    rw [h1] at h
    injection h with h
    injection h with _ h
    cases h) (fun e => hp.2.ne h (by decide) e.symm)).trans h
theorem Zb.grown {w w' : World} {z c : Nat} {o : OpD} {A : Option Addr} {l : List Nat} (h : Zb w z o) (ho : Own w A c l) (hf : w.grownBy w' (ow A)) : Zb w' z o :=
  (hf.block z h.lt (fun e => ho.ne h (by decide) e.symm)).trans h
theorem Zb.new (w : World) (o : OpD) : Zb (w.alloc (.cells #[.int .i64 o.kd, .int .i64 o.sz, .int .u64 (o.n : Nat), .slice o.A o.bs.length o.c] 30)) w.heap.size o := heap_alloc_new w _

theorem Own.over {w : World} {g c : Nat} {l : List Nat} (h : Own w (some ⟨g, 0, none⟩) c l) (j : Nat) (y : Nat) (hy : y < 256) : Own (w.setCell ⟨g, j, none⟩ (.int .u8 (y : Nat))) (some ⟨g, 0, none⟩) c (l.set j y) ∧ w.grownBy (w.setCell ⟨g, j, none⟩ (.int .u8 (y : Nat))) (ow (some ⟨g, 0, none⟩)) :=
  ⟨h.stored j y hy, (h.1.stored j (.int .u8 (y : Nat))).2⟩
theorem app_copyN {ops : Array Oper} {rest : List Oper} {o : Oper} {a : Act} {Q : Exit → Act → World → Prop} {w1 : World} (N : Nat) (hN : w1.heap.size = N) (hgd : o.guard = none) (s x : Operand)
    (ho : o.op = .call { callee := .builtin .append, args := #[s, x], argTypes := #[25, 25] })
    (A : Option Addr) (c : Nat) (bs : List Nat) (hx : Bts w1 A bs) (hA : A = none → c = 0) (lx : bs.length ≤ 140737488355328)
    (hs : a.eval s = .slice (some ⟨N, 0, none⟩) 0 0) (hxx : a.eval x = .slice A bs.length c)
    (h : ∀ A' c' w', w'.ownsRow N 5 1 (.slice A' bs.length c') bs.length (yvals bs) → (A' = none → c' = 0) → Below N w1 w' → wpList Try.prog ops Q rest (a.put o.dst (.slice A' bs.length c')) w') :
    wpList Try.prog ops Q (o :: rest) a (w1.alloc (.cells #[] 5)) := by
  subst hN
  exact app_copy hgd s x ho A c bs hx hA lx hs hxx h
theorem keepW {w' : World} {Rw : Option Addr} {cw : Nat} {l : List Nat} {s : ByteArray} (hs : Hid (strN l = s)) (h : Hid (Own w' Rw cw l)) : (convert 25 9 (.slice Rw l.length cw)).run Try.prog w' = .ok (.string s) w' := by rw [conv_bts cw h.out.bts, hs.out]
theorem grown_refl (w : World) (r : Option Nat) : w.grownBy w r := ⟨rfl, rfl, rfl, Nat.le_refl _, fun _ _ _ => rfl⟩

set_option maxRecDepth 100000 in
set_option maxHeartbeats 4000000 in
theorem packWrites_walk (A : Option Addr) (c : Nat) (os : List OpD) (w : World) (hO : Ops w A os) (hl : os.length ≤ 1048576) (ht : tot os ≤ 1073741824) :
    Calls Try.prog 3 #[.slice A os.length c] w fun e w' => e = .returned (.bool true) ∧ Below w.heap.size w w' := by
  have S := Lib.hid (speaks_any w)
  have HO := Lib.hid hO
  clear hO
  go_enter Try.func3, Try.ntmps3
  go_wp2_with fail
  refine S.out.mono ?_
  rintro e w1 ⟨rfl, hb1⟩
  have B1 := Lib.hid hb1
  have sz1 := hb1.size
  clear hb1 S
  have P0 : Hid (Pen ((w1.alloc (.cells #[.slice none 0 0] 27)).alloc (.cells #[] 5)) w1.heap.size none 0 []) := by
    have h : Pen (w1.alloc (.cells #[.slice none 0 0] 27)) w1.heap.size none 0 [] := ⟨heap_alloc_new w1 _, own_nil _⟩
    exact h.alloc _
  have W0 : Hid (Own ((w1.alloc (.cells #[.slice none 0 0] 27)).alloc (.cells #[] 5)) (some ⟨w1.heap.size + 1, 0, none⟩) 0 []) := by
    have := own_new (w1.alloc (.cells #[.slice none 0 0] 27))
    rw [World.size_alloc] at this; exact this
  have B2 : Hid (Below w.heap.size w ((w1.alloc (.cells #[.slice none 0 0] 27)).alloc (.cells #[] 5))) := (B1.out.alloc B1.out.size _).alloc (by simp; omega) _
  clear B1
  go_wp2_with fail
  generalize hg : w1.heap.size = g at *
  go_loopw [4, 21] (fun v i wr => ∃ (k : Nat) (R Rw : Option Addr) (cr cw : Nat) (l : List Nat), k ≤ os.length ∧ i = .int .i64 k ∧ v = .slice Rw l.length cw ∧ Hid (l = wrs os k) ∧ Pen wr g R cr l ∧ Own wr Rw cw l ∧ Ap R Rw ∧ Below w.heap.size w wr ∧ (∀ j, ow R = some j → w.heap.size ≤ j) ∧ (∀ j, ow Rw = some j → w.heap.size ≤ j)) (fun _ i _ => os.length - (intOf i).toNat)
  case atStart => exact ⟨0, none, _, 0, 0, [], by omega, rfl, rfl, rfl, P0.out, W0.out, (fun k hk => by cases hk), B2.out, (fun j hj => by cases hj), fun j hj => by have : g + 1 = j := (by simpa [ow] using hj); omega⟩
  case round =>
    obtain ⟨k, R, Rw, cr, cw, l, hk, rfl, rfl, hlist, hp, hw, hap, hb, hg1, hg2⟩ := hrel
    clear P0 W0 B2
    by_cases hlt : k < os.length
    · obtain ⟨o, ho⟩ : ∃ o, os[k]? = some o := ⟨_, List.getElem?_eq_getElem hlt⟩
      have hmem : o ∈ os := List.mem_of_getElem? ho
      obtain ⟨hB, hN, hn, hs1, hs2, hk1, hk2⟩ := HO.out.1 o hmem
      obtain ⟨b, off, rfl, hbl, hcells⟩ := HO.out.2 (by omega)
      obtain ⟨q0, q1, q2, q3⟩ := hcells k o ho
      have a0 := (hb.cell (p := ⟨b, off + k * 4, none⟩) hbl).trans q0
      have a1 := (hb.cell (p := ⟨b, off + k * 4 + 1, none⟩) hbl).trans q1
      have a2 := (hb.cell (p := ⟨b, off + k * 4 + 2, none⟩) hbl).trans q2
      have a3 := (hb.cell (p := ⟨b, off + k * 4 + 3, none⟩) hbl).trans q3
      have ek : os[k] = o := by rw [List.getElem?_eq_getElem hlt] at ho; injection ho
      have hroom := len_next os k hlt
      rw [ek, ← hlist.out] at hroom
      have HNX : Hid (wrs os (k + 1) = l ++ wr1 o) := by
        show wrs os (k + 1) = _
        rw [wrs, ho, hlist.out]
      have hroom2 : l.length + 8 + o.bs.length ≤ 1073741824 := by omega
      have P1 := step_pen (Lib.hid hp) (below_new wr (.cells #[.int .i64 o.kd, .int .i64 o.sz, .int .u64 (o.n : Nat), .slice o.A o.bs.length o.c] 30))
      have W1 := step_own (Lib.hid hw) (below_new wr (.cells #[.int .i64 o.kd, .int .i64 o.sz, .int .u64 (o.n : Nat), .slice o.A o.bs.length o.c] 30))
      have Z1 := Lib.hid (Zb.new wr o)
      have B1 := step_below (Lib.hid hb) (below_new wr (.cells #[.int .i64 o.kd, .int .i64 o.sz, .int .u64 (o.n : Nat), .slice o.A o.bs.length o.c] 30))
      have X1 := Lib.hid (hB.below B1.out)
      have HBs := Lib.hid hB
      have HAP := Lib.hid hap; have G1 := Lib.hid hg1; have G2 := Lib.hid hg2; have NB := Lib.hid hN
      have GW : g < w.heap.size → False := fun h => by omega
      clear hcells q0 q1 q2 q3 ek hroom hlist hp hw hap hb hg1 hg2 hB hN ho hmem
      go_wp2_with (at_builtin; refine app_copyN (wr.heap.size + 1) (by simp) rfl (.tmp 25) (.tmp 27) rfl o.A o.c o.bs X1.out NB.out (by omega) rfl rfl ?_)
      intro Ab cb w2 hy2 hn2 hb2'
      have hb2 : Below (wr.alloc (.cells #[.int .i64 o.kd, .int .i64 o.sz, .int .u64 (o.n : Nat), .slice o.A o.bs.length o.c] 30)).heap.size (wr.alloc (.cells #[.int .i64 o.kd, .int .i64 o.sz, .int .u64 (o.n : Nat), .slice o.A o.bs.length o.c] 30)) w2 := by rw [World.size_alloc]; exact hb2'
      have Y2 : Hid (Own w2 Ab cb o.bs) := ⟨hy2.mono (Nat.zero_le _), bn_mem X1.out.1, hn2⟩
      have FB : ∀ j, ow Ab = some j → wr.heap.size + 1 ≤ j := fun j hj => (hy2.lt j (by rw [ow_own, hj])).1
      have APB : Hid (Ap R Ab) := Ap.fresh (N := wr.heap.size + 1) (fun j hj => by have := P1.out.2.lt hj; simpa using this) FB
      have APW : Hid (Ap Rw Ab) := Ap.fresh (N := wr.heap.size + 1) (fun j hj => by have := W1.out.lt hj; simpa using this) FB
      have GB : Hid (∀ j, ow Ab = some j → w.heap.size ≤ j) := fun j hj => by have h1 := FB j hj; have h2 := B1.out.size; simp at h2; omega
      have P2 := step_pen P1 hb2; have W2 := step_own W1 hb2; have Z2 := step_zb Z1 hb2; have B2 := step_below B1 hb2
      have P3 := step_pen P2 (below_new w2 (.cells #[] 5)); have W3 := step_own W2 (below_new w2 (.cells #[] 5)); have Z3 := step_zb Z2 (below_new w2 (.cells #[] 5)); have B3 := step_below B2 (below_new w2 (.cells #[] 5)); have Y3 := step_own Y2 (below_new w2 (.cells #[] 5))
      obtain ⟨z0, z1, z2, z3⟩ := Z3.out.cells
      have hand := i64_and1 o.kd
      clear hy2 hn2 hb2 hb2' FB X1 P1 W1 Z1 B1 P2 W2 Z2 B2 Y2 a0 a1 a2 a3
      by_cases heven : o.kd % 2 = 0
      · rw [heven] at hand
        have HMO : Hid (wr1 o = ub o.n o.sz) := by show wr1 o = _; unfold wr1; rw [if_pos heven]
        have lmo := len_ub o.n o.sz
        have D1 := Lib.hid (penUint_all g R cr l o.n o.sz _ P3.out hn (by omega))
        have D2 := Lib.hid fun W => uint2_all o.n o.sz W hn hs1 hs2
        clear heven
        generalize ub o.n o.sz = mo at *
        generalize uc o.n o.sz = code at *
        go_wp2_with fail
        generalize hW3 : (w2.alloc (.cells #[] 5)) = w3 at *
        with_reducible refine D1.out.mono ?_
        rintro e w4 ⟨rfl, R4, c4, l4, hl4, hp4, hf4, hr4⟩
        have P4 := Lib.hid hp4
        have W4 := Lib.hid (Ap.fr W3.out HAP.out.symm hf4 (W3.out.ne P3.out.1 (by decide)))
        have Y4 := Lib.hid (Ap.fr Y3.out APB.out.symm hf4 (Y3.out.ne P3.out.1 (by decide)))
        have Z4 := Lib.hid (Z3.out.fr P3.out hf4)
        have B4 := Lib.hid (B3.out.trans (hf4.below (B := w.heap.size) (by omega) G1.out B3.out.size))
        have AW4 := Lib.hid (HAP.out.symm.nr hr4 (fun j hj => W3.out.lt hj))
        have AB4 := Lib.hid (APB.out.symm.nr hr4 (fun j hj => Y3.out.lt hj))
        have G4 := Lib.hid (nr_ge (B := w.heap.size) hr4 G1.out B3.out.size)
        obtain ⟨y0, y1, y2, y3⟩ := Z4.out.cells
        clear hp4 hf4 hr4 D1 P3 W3 Y3 Z3 B3 z0 z1 z2 z3 HAP APB G1
        go_wp2_with fail
        with_reducible refine (D2.out _).mono ?_
        rintro e w5 ⟨A5, c5, rfl, ho5, hb5, _⟩
        have M5 := Lib.hid ho5
        have P5 := step_pen P4 hb5; have W5 := step_own W4 hb5; have Y5 := step_own Y4 hb5; have Z5 := step_zb Z4 hb5; have B5 := step_below B4 hb5
        clear ho5 hb5 D2 P4 W4 Y4 Z4 B4 y0 y1 y2 y3
        go_wp2_with (at_builtin; refine appB rfl (.tmp 54) (.tmp 55) rfl Rw cw l W5.out A5 c5 mo M5.out.bts M5.out.2.2 (by omega) rfl rfl ?_)
        intro Rw6 cw6 l6 w6 hl6 ho6 hg6 hr6
        obtain rfl : l6 = l4 := hl6.out.trans hl4.out.symm
        have W6 := Lib.hid ho6
        have P6 := Lib.hid (P5.out.grown W5.out AW4.out.symm hg6)
        have Y6 := Lib.hid (Ap.grown Y5.out APW.out.symm hg6)
        have Z6 := Lib.hid (Z5.out.grown W5.out hg6)
        have B6 := Lib.hid (B5.out.trans (grown_below (B := w.heap.size) hg6 G2.out B5.out.size))
        have AW6 := Lib.hid (AW4.out.symm.nr hr6 (fun j hj => P5.out.2.lt hj))
        have AB6 := Lib.hid (APW.out.symm.nr hr6 (fun j hj => Y5.out.lt hj))
        have G6 := Lib.hid (nr_ge (B := w.heap.size) hr6 G2.out B5.out.size)
        have l6l : l6.length ≤ 140737488355328 := by rw [hl6.out, List.length_append]; omega
        have HL6 : Hid (l6 = wrs os (k + 1)) := by show l6 = _; rw [HNX.out, HMO.out]; exact hl6.out
        have D3 := Lib.hid (penData_any g R4 c4 l6 w6 P6.out l6l)
        clear ho6 hg6 hr6 hl6 hl4 P5 W5 Y5 Z5 B5 M5 AW4 APW G2 HNX HMO
        go_wp2_with fail
        with_reducible refine D3.out.mono ?_
        rintro e w7 ⟨Ad, cd, rfl, ho7, hb7, hf7⟩
        have P7 := step_pen P6 hb7; have W7 := step_own W6 hb7; have Y7 := step_own Y6 hb7; have Z7 := step_zb Z6 hb7; have B7 := step_below B6 hb7; have D7 := Lib.hid ho7
        have AD1 : Hid (Ap R4 Ad) := Ap.fresh (fun j hj => P6.out.2.lt hj) hf7
        have AD2 : Hid (Ap Rw6 Ad) := Ap.fresh (fun j hj => W6.out.lt hj) hf7
        have AD3 : Hid (Ap Ab Ad) := Ap.fresh (fun j hj => Y6.out.lt hj) hf7
        have GD : Hid (∀ j, ow Ad = some j → w.heap.size ≤ j) := fun j hj => by have h1 := hf7 j hj; have h2 := B6.out.size; omega
        have v1 := conv_bts cd D7.out.bts
        have v2 := conv_bts cw6 W7.out.bts
        have v3 := conv_bts cb Y7.out.bts
        have v4 := conv_bts o.c (HBs.out.below B7.out)
        have y3 := Z7.out.cells.2.2.2
        clear ho7 hb7 hf7 D3 P6 W6 Y6 Z6 B6
        generalize strN l6 = s6 at *
        generalize strN o.bs = sb at *
        go_wp2_with fail
        clear v1 v2 v3 v4 y3
        go_loopw [79] (fun i wi => ∃ (j : Nat) (dl : List Nat), j ≤ l6.length ∧ i = .int .i64 j ∧ Hid (dl.length = l6.length) ∧ Own wi Ad cd dl ∧ w7.grownBy wi (ow Ad)) (fun i _ => l6.length - (intOf i).toNat)
        case atStart => exact ⟨0, l6, by omega, rfl, rfl, D7.out, grown_refl _ _⟩
        case round =>
          obtain ⟨j, dl, hj, rfl, hdl, hod, hgd⟩ := hrel
          by_cases hjl : j < l6.length
          · obtain ⟨gd, rfl⟩ := own_addr hod (by have := hdl.out; omega)
            obtain ⟨c1, f1⟩ := hod.at_ j (by have := hdl.out; omega)
            obtain ⟨st1, st2⟩ := hod.over j 238 (by omega)
            have T1 := Lib.hid st1; have T2 := Lib.hid (hgd.trans st2)
            clear hod hgd st1 st2
            go_wp2_with fail
            go_roundw
            case rel => exact ⟨j + 1, _, by omega, by go_num, (by show (dl.set j 238).length = _; rw [List.length_set]; exact hdl.out), T1.out, T2.out⟩
            case measure => simp [intOf]; omega
          · obtain rfl : j = l6.length := by omega
            have P8 := Lib.hid (P7.out.grown D7.out AD1.out hgd)
            have W8 := Lib.hid (Ap.grown W7.out AD2.out hgd)
            have Y8 := Lib.hid (Ap.grown Y7.out AD3.out hgd)
            have B8 := Lib.hid (B7.out.trans (grown_below (B := w.heap.size) hgd GD.out B7.out.size))
            clear hod hgd hdl P7 W7 Y7 B7 D7 Z7
            go_wp2_with fail
            go_loopw [88] (fun i wi => ∃ (j : Nat) (dl : List Nat), j ≤ o.bs.length ∧ i = .int .i64 j ∧ Hid (dl.length = o.bs.length) ∧ Own wi Ab cb dl ∧ wr.grownBy wi (ow Ab)) (fun i _ => o.bs.length - (intOf i).toNat)
            case atStart => exact ⟨0, o.bs, by omega, rfl, rfl, Y8.out, grown_refl _ _⟩
            case round =>
              obtain ⟨j, dl, hj, rfl, hdl, hod, hgd⟩ := hrel
              by_cases hjl : j < o.bs.length
              · obtain ⟨gd, rfl⟩ := own_addr hod (by have := hdl.out; omega)
                obtain ⟨c1, f1⟩ := hod.at_ j (by have := hdl.out; omega)
                obtain ⟨st1, st2⟩ := hod.over j 238 (by omega)
                have T1 := Lib.hid st1; have T2 := Lib.hid (hgd.trans st2)
                clear hod hgd st1 st2
                go_wp2_with fail
                go_roundw
                case rel => exact ⟨j + 1, _, by omega, by go_num, (by show (dl.set j 238).length = _; rw [List.length_set]; exact hdl.out), T1.out, T2.out⟩
                case measure => simp [intOf]; omega
              · obtain rfl : j = o.bs.length := by omega
                have P9 := Lib.hid (P8.out.grown Y8.out AB4.out.symm hgd)
                have W9 := Lib.hid (Ap.grown W8.out AB6.out.symm hgd)
                have B9 := Lib.hid (B8.out.trans (grown_below (B := w.heap.size) hgd GB.out B8.out.size))
                clear hod hgd hdl P8 W8 Y8 B8
                go_wp2_with fail
                go_roundw
                case rel => exact ⟨k + 1, R4, Rw6, c4, cw6, l6, by omega, by go_num, rfl, HL6, P9.out, W9.out, AW6.out, B9.out, G4.out, G6.out⟩
                case measure => simp [intOf]; omega
      · have h1 : o.kd % 2 = 1 := by omega
        rw [h1] at hand
        have HMO : Hid (wr1 o = le 4 o.bs.length ++ o.bs) := by show wr1 o = _; unfold wr1; rw [if_neg heven]
        have lmo : (le 4 o.bs.length ++ o.bs).length ≤ 8 + o.bs.length := by rw [List.length_append, len_le]; omega
        have D1 := Lib.hid (penBytes_ok g R cr l Ab cb o.bs _ P3.out Y3.out.bts Y3.out.2.2 (fun _ => ⟨Y3.out.ne P3.out.1 (by decide), by
          cases e : ow Ab with
          | none => exact .inl rfl
          | some j => exact .inr fun e2 => APB.out j e2.symm e⟩) (by omega) (by omega))
        have D2 : Hid (∀ W, Bts W o.A o.bs → Calls Try.prog 14 #[.slice o.A o.bs.length o.c] W (GivesN W (le 4 o.bs.length ++ o.bs))) := fun W h => bytes2_any o.A o.c o.bs W h NB.out (by omega)
        clear heven h1
        generalize le 4 o.bs.length ++ o.bs = mo at *
        go_wp2_with fail
        generalize hW3 : (w2.alloc (.cells #[] 5)) = w3 at *
        with_reducible refine D1.out.mono ?_
        rintro e w4 ⟨rfl, R4, c4, l4, hl4, hp4, hf4, hr4⟩
        have P4 := Lib.hid hp4
        have W4 := Lib.hid (Ap.fr W3.out HAP.out.symm hf4 (W3.out.ne P3.out.1 (by decide)))
        have Y4 := Lib.hid (Ap.fr Y3.out APB.out.symm hf4 (Y3.out.ne P3.out.1 (by decide)))
        have Z4 := Lib.hid (Z3.out.fr P3.out hf4)
        have B4 := Lib.hid (B3.out.trans (hf4.below (B := w.heap.size) (by omega) G1.out B3.out.size))
        have AW4 := Lib.hid (HAP.out.symm.nr hr4 (fun j hj => W3.out.lt hj))
        have AB4 := Lib.hid (APB.out.symm.nr hr4 (fun j hj => Y3.out.lt hj))
        have G4 := Lib.hid (nr_ge (B := w.heap.size) hr4 G1.out B3.out.size)
        obtain ⟨y0, y1, y2, y3⟩ := Z4.out.cells
        clear hp4 hf4 hr4 D1 P3 W3 Y3 Z3 B3 z0 z1 z2 z3 HAP APB G1
        have X4 := Lib.hid (HBs.out.below B4.out)
        go_wp2_with fail
        with_reducible refine (D2.out _ X4.out).mono ?_
        rintro e w5 ⟨A5, c5, rfl, ho5, hb5, _⟩
        clear X4
        have M5 := Lib.hid ho5
        have P5 := step_pen P4 hb5; have W5 := step_own W4 hb5; have Y5 := step_own Y4 hb5; have Z5 := step_zb Z4 hb5; have B5 := step_below B4 hb5
        clear ho5 hb5 D2 P4 W4 Y4 Z4 B4 y0 y1 y2 y3
        go_wp2_with (at_builtin; refine appB rfl (.tmp 54) (.tmp 55) rfl Rw cw l W5.out A5 c5 mo M5.out.bts M5.out.2.2 (by omega) rfl rfl ?_)
        intro Rw6 cw6 l6 w6 hl6 ho6 hg6 hr6
        obtain rfl : l6 = l4 := hl6.out.trans hl4.out.symm
        have W6 := Lib.hid ho6
        have P6 := Lib.hid (P5.out.grown W5.out AW4.out.symm hg6)
        have Y6 := Lib.hid (Ap.grown Y5.out APW.out.symm hg6)
        have Z6 := Lib.hid (Z5.out.grown W5.out hg6)
        have B6 := Lib.hid (B5.out.trans (grown_below (B := w.heap.size) hg6 G2.out B5.out.size))
        have AW6 := Lib.hid (AW4.out.symm.nr hr6 (fun j hj => P5.out.2.lt hj))
        have AB6 := Lib.hid (APW.out.symm.nr hr6 (fun j hj => Y5.out.lt hj))
        have G6 := Lib.hid (nr_ge (B := w.heap.size) hr6 G2.out B5.out.size)
        have l6l : l6.length ≤ 140737488355328 := by rw [hl6.out, List.length_append]; omega
        have HL6 : Hid (l6 = wrs os (k + 1)) := by show l6 = _; rw [HNX.out, HMO.out]; exact hl6.out
        have D3 := Lib.hid (penData_any g R4 c4 l6 w6 P6.out l6l)
        clear ho6 hg6 hr6 hl6 hl4 P5 W5 Y5 Z5 B5 M5 AW4 APW G2 HNX HMO
        go_wp2_with fail
        with_reducible refine D3.out.mono ?_
        rintro e w7 ⟨Ad, cd, rfl, ho7, hb7, hf7⟩
        have P7 := step_pen P6 hb7; have W7 := step_own W6 hb7; have Y7 := step_own Y6 hb7; have Z7 := step_zb Z6 hb7; have B7 := step_below B6 hb7; have D7 := Lib.hid ho7
        have AD1 : Hid (Ap R4 Ad) := Ap.fresh (fun j hj => P6.out.2.lt hj) hf7
        have AD2 : Hid (Ap Rw6 Ad) := Ap.fresh (fun j hj => W6.out.lt hj) hf7
        have AD3 : Hid (Ap Ab Ad) := Ap.fresh (fun j hj => Y6.out.lt hj) hf7
        have GD : Hid (∀ j, ow Ad = some j → w.heap.size ≤ j) := fun j hj => by have h1 := hf7 j hj; have h2 := B6.out.size; omega
        have v1 := conv_bts cd D7.out.bts
        have v2 := conv_bts cw6 W7.out.bts
        have v3 := conv_bts cb Y7.out.bts
        have v4 := conv_bts o.c (HBs.out.below B7.out)
        have y3 := Z7.out.cells.2.2.2
        clear ho7 hb7 hf7 D3 P6 W6 Y6 Z6 B6
        generalize strN l6 = s6 at *
        generalize strN o.bs = sb at *
        go_wp2_with fail
        clear v1 v2 v3 v4 y3
        go_loopw [79] (fun i wi => ∃ (j : Nat) (dl : List Nat), j ≤ l6.length ∧ i = .int .i64 j ∧ Hid (dl.length = l6.length) ∧ Own wi Ad cd dl ∧ w7.grownBy wi (ow Ad)) (fun i _ => l6.length - (intOf i).toNat)
        case atStart => exact ⟨0, l6, by omega, rfl, rfl, D7.out, grown_refl _ _⟩
        case round =>
          obtain ⟨j, dl, hj, rfl, hdl, hod, hgd⟩ := hrel
          by_cases hjl : j < l6.length
          · obtain ⟨gd, rfl⟩ := own_addr hod (by have := hdl.out; omega)
            obtain ⟨c1, f1⟩ := hod.at_ j (by have := hdl.out; omega)
            obtain ⟨st1, st2⟩ := hod.over j 238 (by omega)
            have T1 := Lib.hid st1; have T2 := Lib.hid (hgd.trans st2)
            clear hod hgd st1 st2
            go_wp2_with fail
            go_roundw
            case rel => exact ⟨j + 1, _, by omega, by go_num, (by show (dl.set j 238).length = _; rw [List.length_set]; exact hdl.out), T1.out, T2.out⟩
            case measure => simp [intOf]; omega
          · obtain rfl : j = l6.length := by omega
            have P8 := Lib.hid (P7.out.grown D7.out AD1.out hgd)
            have W8 := Lib.hid (Ap.grown W7.out AD2.out hgd)
            have Y8 := Lib.hid (Ap.grown Y7.out AD3.out hgd)
            have B8 := Lib.hid (B7.out.trans (grown_below (B := w.heap.size) hgd GD.out B7.out.size))
            clear hod hgd hdl P7 W7 Y7 B7 D7 Z7
            go_wp2_with fail
            go_loopw [88] (fun i wi => ∃ (j : Nat) (dl : List Nat), j ≤ o.bs.length ∧ i = .int .i64 j ∧ Hid (dl.length = o.bs.length) ∧ Own wi Ab cb dl ∧ wr.grownBy wi (ow Ab)) (fun i _ => o.bs.length - (intOf i).toNat)
            case atStart => exact ⟨0, o.bs, by omega, rfl, rfl, Y8.out, grown_refl _ _⟩
            case round =>
              obtain ⟨j, dl, hj, rfl, hdl, hod, hgd⟩ := hrel
              by_cases hjl : j < o.bs.length
              · obtain ⟨gd, rfl⟩ := own_addr hod (by have := hdl.out; omega)
                obtain ⟨c1, f1⟩ := hod.at_ j (by have := hdl.out; omega)
                obtain ⟨st1, st2⟩ := hod.over j 238 (by omega)
                have T1 := Lib.hid st1; have T2 := Lib.hid (hgd.trans st2)
                clear hod hgd st1 st2
                go_wp2_with fail
                go_roundw
                case rel => exact ⟨j + 1, _, by omega, by go_num, (by show (dl.set j 238).length = _; rw [List.length_set]; exact hdl.out), T1.out, T2.out⟩
                case measure => simp [intOf]; omega
              · obtain rfl : j = o.bs.length := by omega
                have P9 := Lib.hid (P8.out.grown Y8.out AB4.out.symm hgd)
                have W9 := Lib.hid (Ap.grown W8.out AB6.out.symm hgd)
                have B9 := Lib.hid (B8.out.trans (grown_below (B := w.heap.size) hgd GB.out B8.out.size))
                clear hod hgd hdl P8 W8 Y8 B8
                go_wp2_with fail
                go_roundw
                case rel => exact ⟨k + 1, R4, Rw6, c4, cw6, l6, by omega, by go_num, rfl, HL6, P9.out, W9.out, AW6.out, B9.out, G4.out, G6.out⟩
                case measure => simp [intOf]; omega
    · obtain rfl : k = os.length := by omega
      have P1 := Lib.hid hp; have W1 := Lib.hid hw; have B1 := Lib.hid hb
      have hl2 : l.length ≤ 140737488355328 := by
        have := len_wrs os os.length (Nat.le_refl _)
        rw [List.take_length, ← hlist.out] at this
        unfold tot at ht; omega
      clear hp hw hap hb hg1 hg2
      go_wp2_with fail
      obtain ⟨s, HS⟩ : ∃ s, Hid (strN l = s) := ⟨_, rfl⟩
      have D1 : Hid (∀ W, Hid (Pen W g R cr l) → Calls Try.prog 15 #[.pointer (some ⟨g, 0, none⟩)] W (GivesN W l)) := fun W h => penData_any g R cr l W h.out hl2
      have P1d : Hid (Pen wr.drew g R cr l) := P1.out
      have W1d : Hid (Own wr.drew Rw cw l) := W1.out
      have B1d : Hid (Below w.heap.size w wr.drew) := B1.out.drew
      refine wp_region_held_drew (S := (fun w' => (convert 25 9 (.slice Rw l.length cw)).run Try.prog w' = .ok (.string s) w')) (by kernel_rfl) ?_ (fun hHeld => ?_)
      · exact keepW HS (by assumption)
      refine wpAnyH_take (i := 0) (v := ?_) rfl (by kernel_rfl) (by kernel_rfl) (by kernel_rfl) (fun _ _ _ h => h) (Or.inl ⟨by rfl, ?_⟩) (by assumption) ?_
      rotate_left
      · (intro w hSw; (try dsimp only at hSw); go_simp <;> with_reducible rfl)
      try simp only [Act.put, List.getElem_toArray, List.getElem_cons_succ, List.getElem_cons_zero, List.setIfInBounds_toArray, List.set_cons_zero, List.set_cons_succ]
      refine wpAnyH_take (i := 3) (v := ?_) rfl (by kernel_rfl) (by kernel_rfl) (by kernel_rfl) (fun _ _ _ h => h) (Or.inl ⟨by rfl, ?_⟩) (by assumption) ?_
      rotate_left
      · (intro w hSw; (try dsimp only at hSw); go_simp <;> with_reducible rfl)
      try simp only [Act.put, List.getElem_toArray, List.getElem_cons_succ, List.getElem_cons_zero, List.setIfInBounds_toArray, List.set_cons_zero, List.set_cons_succ]
      refine wpAnyH_take (i := 4) (v := ?_) rfl (by kernel_rfl) (by kernel_rfl) (by kernel_rfl) (fun _ _ _ h => h) (Or.inl ⟨by rfl, ?_⟩) (by assumption) ?_
      rotate_left
      · (intro w hSw; (try dsimp only at hSw); go_simp <;> with_reducible rfl)
      try simp only [Act.put, List.getElem_toArray, List.getElem_cons_succ, List.getElem_cons_zero, List.setIfInBounds_toArray, List.set_cons_zero, List.set_cons_succ]
      refine wpAnyH_ready (rs := [1]) (by kernel_rfl) (by simp) ?_
      refine AllReadyH.cons rfl (fun K hK => ?_) AllReadyH.nil
      go_simp
      with_reducible refine (D1.out _ (by assumption)).mono ?_
      (rintro e wn ⟨Ad, cd, rfl, ho, hb, _⟩; have K1 := step_own (A := Rw) (c := cw) (l := l) (by assumption) hb; have BB := step_below (w := w) (by assumption) hb; have e2 := conv_bts cd ho.bts; rw [HS.out] at e2; clear hb ho)
      go_wp2_with fail
      refine hK.out _ _ ?_ (fun hHeld => ?_)
      · exact keepW HS (by assumption)
      clear hK K
      try simp only [Act.put, List.getElem_toArray, List.getElem_cons_succ, List.getElem_cons_zero, List.setIfInBounds_toArray, List.set_cons_zero, List.set_cons_succ]
      refine wpAnyH_ready (rs := [2]) (by kernel_rfl) (by simp) ?_
      refine AllReadyH.cons rfl (fun K hK => ?_) AllReadyH.nil
      go_simp
      refine hK.out _ _ ?_ (fun hHeld => ?_)
      · exact keepW HS (by assumption)
      clear hK K
      try simp only [Act.put, List.getElem_toArray, List.getElem_cons_succ, List.getElem_cons_zero, List.setIfInBounds_toArray, List.set_cons_zero, List.set_cons_succ]
      refine wpAnyH_take (i := 5) (v := ?_) rfl (by kernel_rfl) (by kernel_rfl) (by kernel_rfl) (fun _ _ _ h => h) (Or.inl ⟨by rfl, ?_⟩) (by assumption) ?_
      rotate_left
      · (intro w hSw; (try dsimp only at hSw); go_simp <;> with_reducible rfl)
      try simp only [Act.put, List.getElem_toArray, List.getElem_cons_succ, List.getElem_cons_zero, List.setIfInBounds_toArray, List.set_cons_zero, List.set_cons_succ]
      refine wpAnyH_take (i := 6) (v := ?_) rfl (by kernel_rfl) (by kernel_rfl) (by kernel_rfl) (fun _ _ _ h => h) (Or.inl ⟨by rfl, ?_⟩) (by assumption) ?_
      rotate_left
      · (intro w hSw; (try dsimp only at hSw); go_simp <;> with_reducible rfl)
      try simp only [Act.put, List.getElem_toArray, List.getElem_cons_succ, List.getElem_cons_zero, List.setIfInBounds_toArray, List.set_cons_zero, List.set_cons_succ]
      refine wpAnyH_done (by kernel_rfl) ?_ _
      go_wp2
      go_ret
      exact ⟨rfl, BB.out⟩
end Go.Proofs.Ytmjhmjbbfklbdaa
