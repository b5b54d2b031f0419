/- PackBack: its walk. -/
import Derived.Test.YtmjhmjbbfklbdaaY1
namespace Go.Proofs.Ytmjhmjbbfklbdaa
open Go.RowKit

theorem step_owno {W w' : World} {A : Option Addr} {c : Nat} {l : List OpD} (h : Hid (OwnO W A c l)) (hb : Below W.heap.size W w') : Hid (OwnO w' A c l) := h.out.below hb
theorem Zb.grownO {w w' : World} {z g : Nat} {o : OpD} (h : Zb w z o) (hf : w.grownBy w' (some g)) (hne : z ≠ g) : Zb w' z o := (hf.block z h.lt (fun e => hne (by injection e))).trans h
theorem wl_nil (l : List OpD) : wl (l.drop l.length) = [] := by rw [List.drop_length]; rfl
theorem pen_grown {w w' : World} {g c : Nat} {A X : Option Addr} {l : List Nat} {c2 : Nat} {ds : List OpD} (h : Pen w g A c l) (hx : OwnO w X c2 ds) (hf : w.grownBy w' (ow X)) : Pen w' g A c l :=
  ⟨(hf.block g h.lt (fun e => hx.ne h.1 (by decide) e.symm)).trans h.1, Ap.grown h.2 (hx.own h.2).symm hf⟩
/-- what the first loop carries -/
structure Row1 (w wr : World) (os : List OpD) (g k : Nat) (R Rd : Option Addr) (cr cd : Nat) (l : List Nat) (ds : List OpD) : Prop where
  done : ds = dn os k
  text : l = wrs os k
  pen : Pen wr g R cr l
  row : OwnO wr Rd cd ds
  below : Below w.heap.size w wr
  gr : ∀ j, ow R = some j → w.heap.size ≤ j
  gd : ∀ j, ow Rd = some j → w.heap.size ≤ j
section
variable {w wr w' w'' : World} {os : List OpD} {g k : Nat} {R R' Rd Rd' : Option Addr} {cr cr' cd cd' : Nat} {l l' : List Nat} {ds ds' : List OpD}
theorem Row1.step (h : Row1 w wr os g k R Rd cr cd l ds) (hb : Below wr.heap.size wr w') : Row1 w w' os g k R Rd cr cd l ds :=
  ⟨h.done, h.text, h.pen.below hb, h.row.below hb, h.below.trans (hb.mono h.below.size), h.gr, h.gd⟩
/-- the pen has written: nothing is taken yet -/
theorem Row1.wrote (h : Row1 w wr os g k R Rd cr cd l ds) (hg : w.heap.size ≤ g) (hp : Pen w' g R' cr' l') (hf : Fr wr w' g (ow R)) (hr : Nr wr R R') : OwnO w' Rd cd ds ∧ Below w.heap.size w w' ∧ (∀ j, ow R' = some j → w.heap.size ≤ j) :=
  ⟨h.row.fr hf (h.row.ne h.pen.1 (by decide)) (h.row.own h.pen.2).or, h.below.trans (hf.below hg h.gr h.below.size), nr_ge hr h.gr h.below.size⟩
end
set_option maxRecDepth 100000 in
set_option maxHeartbeats 4000000 in
theorem packBack_walk (A : Option Addr) (c : Nat) (os : List OpD) (w : World) (hO : Ops w A os) (hl : os.length ≤ 1048576) (ht : tot os ≤ 1073741824) :
    Calls Try.prog 5 #[.slice A os.length c] w fun e w' => e = .returned (.bool true) ∧ Below w.heap.size w w' := by
  have S := Lib.hid (speaks_any w)
  have HO := Lib.hid hO
  clear hO
  go_enter Try.func5, Try.ntmps5
  go_wp2_with fail
  refine S.out.mono ?_
  rintro e w1 ⟨rfl, hb1⟩
  have B1 := Lib.hid hb1
  have sz1 := hb1.size
  clear hb1 S
  have P0 : Hid (Row1 w ((w1.alloc (.cells #[.slice none 0 0] 27)).alloc (.cells #[] 30)) os w1.heap.size 0 none (some ⟨w1.heap.size + 1, 0, none⟩) 0 0 [] []) := by
    have h : Pen (w1.alloc (.cells #[.slice none 0 0] 27)) w1.heap.size none 0 [] := ⟨heap_alloc_new w1 _, own_nil _⟩
    have h2 := owno_new (w1.alloc (.cells #[.slice none 0 0] 27))
    rw [World.size_alloc] at h2
    exact ⟨rfl, rfl, h.alloc _, h2, (B1.out.alloc B1.out.size _).alloc (by simp; omega) _, (fun j hj => by cases hj), fun j hj => by have : w1.heap.size + 1 = j := (by simpa [ow] using hj); omega⟩
  clear B1
  go_wp2_with fail
  generalize hg : w1.heap.size = g at *
  go_loopw [4, 23] (fun v i wr => ∃ (k : Nat) (R Rd : Option Addr) (cr cd : Nat) (l : List Nat) (ds : List OpD), k ≤ os.length ∧ i = .int .i64 k ∧ v = .slice Rd ds.length cd ∧ Row1 w wr os g k R Rd cr cd l ds) (fun _ i _ => os.length - (intOf i).toNat)
  case atStart => exact ⟨0, none, _, 0, 0, [], [], by omega, rfl, rfl, P0.out⟩
  case round =>
    obtain ⟨k, R, Rd, cr, cd, l, ds, hk, rfl, rfl, hrow⟩ := hrel
    clear P0
    by_cases hlt : k < os.length
    · obtain ⟨o, ho⟩ : ∃ o, os[k]? = some o := ⟨_, List.getElem?_eq_getElem hlt⟩
      have hmem : o ∈ os := List.mem_of_getElem? ho
      obtain ⟨hB, hN, hn, hs1, hs2, hk1, hk2⟩ := HO.out.1 o hmem
      obtain ⟨b, off, rfl, hbl, hcells⟩ := HO.out.2 (by omega)
      obtain ⟨q0, q1, q2, q3⟩ := hcells k o ho
      have hb := hrow.below
      have a0 := (hb.cell (p := ⟨b, off + k * 4, none⟩) hbl).trans q0
      have a1 := (hb.cell (p := ⟨b, off + k * 4 + 1, none⟩) hbl).trans q1
      have a2 := (hb.cell (p := ⟨b, off + k * 4 + 2, none⟩) hbl).trans q2
      have a3 := (hb.cell (p := ⟨b, off + k * 4 + 3, none⟩) hbl).trans q3
      have ek : os[k] = o := by rw [List.getElem?_eq_getElem hlt] at ho; injection ho
      have hroom := len_next os k hlt
      rw [ek, ← hrow.text] at hroom
      have HNX : Hid (wrs os (k + 1) = l ++ wr1 o) := by
        show wrs os (k + 1) = _
        rw [wrs, ho, hrow.text]
      have hroom2 : l.length + 8 + o.bs.length ≤ 1073741824 := by omega
      have hdl : ds.length ≤ 1048576 := by rw [hrow.done]; have := len_dn os k; omega
      have Q1 := Lib.hid (hrow.step (below_new wr (.cells #[.int .i64 o.kd, .int .i64 o.sz, .int .u64 (o.n : Nat), .slice o.A o.bs.length o.c] 30)))
      have Z1 := Lib.hid (Zb.new wr o)
      have HBs := Lib.hid hB
      have NB := Lib.hid hN
      have HK := Lib.hid ho
      have gle : w.heap.size ≤ g := by omega
      obtain ⟨z0, z1, z2, z3⟩ := Z1.out.cells
      have hand := i64_and1 o.kd
      clear hcells q0 q1 q2 q3 ek hroom hb hB hN ho hmem hrow
      by_cases heven : o.kd % 2 = 0
      · rw [heven] at hand
        have HMO : Hid (wr1 o = ub o.n o.sz) := by show wr1 o = _; unfold wr1; rw [if_pos heven]
        have D1 := Lib.hid (penUint_all g R cr l o.n o.sz _ Q1.out.pen hn (by omega))
        have HTK := tk_u heven
        by_cases htk : tk o
        · have hc := HTK.2 htk
          rw [hc] at D1
          have HT := Lib.hid htk
          clear heven HTK htk hc
          generalize ub o.n o.sz = mo at *
          go_wp2_with fail
          with_reducible refine D1.out.mono ?_
          rintro e w4 ⟨rfl, R4, c4, l4, hl4, hp4, hf4, hr4⟩
          obtain ⟨r4, b4, g4⟩ := Q1.out.wrote gle hp4 hf4 hr4
          have P4 := Lib.hid hp4; have O4 := Lib.hid r4; have B4 := Lib.hid b4; have G4 := Lib.hid g4
          have Z4 := Lib.hid (Z1.out.fr Q1.out.pen hf4)
          obtain ⟨y0, y1, y2, y3⟩ := Z4.out.cells
          have HL4 := hl4
          have zl := Z4.out.lt
          clear hp4 hf4 hr4 r4 b4 g4 D1 z0 z1 z2 z3 hl4
          have Z5 := Lib.hid (Zb.new w4 o)
          have O5 := step_owno O4 (below_new w4 (.cells #[.int .i64 o.kd, .int .i64 o.sz, .int .u64 (o.n : Nat), .slice o.A o.bs.length o.c] 30))
          have P5 := step_pen P4 (below_new w4 (.cells #[.int .i64 o.kd, .int .i64 o.sz, .int .u64 (o.n : Nat), .slice o.A o.bs.length o.c] 30))
          have B5 := step_below B4 (below_new w4 (.cells #[.int .i64 o.kd, .int .i64 o.sz, .int .u64 (o.n : Nat), .slice o.A o.bs.length o.c] 30))
          go_wp2_with (at_builtin; refine appO rfl (.tmp 53) (.tmp 55) rfl Rd cd ds O5.out _ _ o Z5.out hdl rfl rfl ?_)
          intro Rd6 cd6 ds6 w6 hds6 ho6 hg6 hr6
          have N6 : Hid (Row1 w w6 os g (k + 1) R4 Rd6 c4 cd6 l4 ds6) :=
            ⟨by rw [hds6.out, dn_yes HK.out HT.out, Q1.out.done], by rw [HL4.out, HNX.out, HMO.out], pen_grown P5.out O5.out hg6, ho6, B5.out.trans (grown_below hg6 Q1.out.gd B5.out.size), G4.out, nr_ge hr6 Q1.out.gd B5.out.size⟩
          clear hds6 ho6 hg6 hr6 P5 O5 B5 Z5 P4 O4 B4 Z4 HL4 HNX HMO G4 Q1 Z1 y0 y1 y2 y3
          go_wp2_with fail
          go_roundw
          case rel => exact ⟨k + 1, R4, Rd6, c4, cd6, l4, ds6, by omega, by go_num, rfl, N6.out⟩
          case measure => simp [intOf]; omega
        · have hc : uc o.n o.sz = 2 := by
            by_cases h : uc o.n o.sz = 0
            · exact absurd (HTK.1 h) htk
            · unfold uc at h ⊢; split at h <;> simp_all
          rw [hc] at D1
          have HT := Lib.hid htk
          clear heven HTK htk hc
          generalize ub o.n o.sz = mo at *
          go_wp2_with fail
          with_reducible refine D1.out.mono ?_
          rintro e w4 ⟨rfl, R4, c4, l4, hl4, hp4, hf4, hr4⟩
          obtain ⟨r4, b4, g4⟩ := Q1.out.wrote gle hp4 hf4 hr4
          have Z4 := Lib.hid (Z1.out.fr Q1.out.pen hf4)
          obtain ⟨y0, y1, y2, y3⟩ := Z4.out.cells
          have N4 : Hid (Row1 w w4 os g (k + 1) R4 Rd c4 cd l4 ds) :=
            ⟨by rw [dn_no HK.out HT.out, Q1.out.done], by rw [hl4.out, HNX.out, HMO.out], hp4, r4, b4, g4, Q1.out.gd⟩
          clear hp4 hf4 hr4 r4 b4 g4 D1 z0 z1 z2 z3 hl4 HNX HMO Q1 Z1 Z4
          go_wp2_with fail
          go_roundw
          case rel => exact ⟨k + 1, R4, Rd, c4, cd, l4, ds, by omega, by go_num, rfl, N4.out⟩
          case measure => simp [intOf]; omega
      · have h1 : o.kd % 2 = 1 := by omega
        rw [h1] at hand
        have HMO : Hid (wr1 o = le 4 o.bs.length ++ o.bs) := by show wr1 o = _; unfold wr1; rw [if_neg heven]
        have HT : Hid (tk o) := fun h => absurd h heven
        have D1 := Lib.hid (penBytes_ok g R cr l o.A o.c o.bs _ Q1.out.pen (HBs.out.below Q1.out.below) NB.out (fun h0 => by
          have hlt' := ow_lt HBs.out h0
          refine ⟨fun e => by have := hlt' g e; omega, ?_⟩
          cases e : ow o.A with
          | none => exact .inl rfl
          | some j => exact .inr fun e2 => by have h1 := hlt' j e; have h2 := Q1.out.gr j e2.symm; omega) (by omega) (by omega))
        clear heven h1
        generalize hmo : le 4 o.bs.length ++ o.bs = mo at *
        go_wp2_with fail
        with_reducible refine D1.out.mono ?_
        rintro e w4 ⟨rfl, R4, c4, l4, hl4, hp4, hf4, hr4⟩
        obtain ⟨r4, b4, g4⟩ := Q1.out.wrote gle hp4 hf4 hr4
        have P4 := Lib.hid hp4; have O4 := Lib.hid r4; have B4 := Lib.hid b4; have G4 := Lib.hid g4
        have Z4 := Lib.hid (Z1.out.fr Q1.out.pen hf4)
        obtain ⟨y0, y1, y2, y3⟩ := Z4.out.cells
        have HL4 := hl4
        have zl := Z4.out.lt
        clear hp4 hf4 hr4 r4 b4 g4 D1 z0 z1 z2 z3 hl4 hmo
        have Z5 := Lib.hid (Zb.new w4 o)
        have O5 := step_owno O4 (below_new w4 (.cells #[.int .i64 o.kd, .int .i64 o.sz, .int .u64 (o.n : Nat), .slice o.A o.bs.length o.c] 30))
        have P5 := step_pen P4 (below_new w4 (.cells #[.int .i64 o.kd, .int .i64 o.sz, .int .u64 (o.n : Nat), .slice o.A o.bs.length o.c] 30))
        have B5 := step_below B4 (below_new w4 (.cells #[.int .i64 o.kd, .int .i64 o.sz, .int .u64 (o.n : Nat), .slice o.A o.bs.length o.c] 30))
        go_wp2_with (at_builtin; refine appO rfl (.tmp 53) (.tmp 55) rfl Rd cd ds O5.out _ _ o Z5.out hdl rfl rfl ?_)
        intro Rd6 cd6 ds6 w6 hds6 ho6 hg6 hr6
        have N6 : Hid (Row1 w w6 os g (k + 1) R4 Rd6 c4 cd6 l4 ds6) :=
          ⟨by rw [hds6.out, dn_yes HK.out HT.out, Q1.out.done], by rw [HL4.out, HNX.out, HMO.out], pen_grown P5.out O5.out hg6, ho6, B5.out.trans (grown_below hg6 Q1.out.gd B5.out.size), G4.out, nr_ge hr6 Q1.out.gd B5.out.size⟩
        clear hds6 ho6 hg6 hr6 P5 O5 B5 Z5 P4 O4 B4 Z4 HL4 HNX HMO G4 Q1 Z1 y0 y1 y2 y3
        go_wp2_with fail
        go_roundw
        case rel => exact ⟨k + 1, R4, Rd6, c4, cd6, l4, ds6, by omega, by go_num, rfl, N6.out⟩
        case measure => simp [intOf]; omega
    · obtain rfl : k = os.length := by omega
      have htl : l.length ≤ 1073741824 := by rw [hrow.text]; have := len_wrs os os.length (Nat.le_refl _); rw [List.take_length] at this; unfold tot at ht; omega
      have hdl : ds.length ≤ 1048576 := by rw [hrow.done]; have := len_dn os os.length; omega
      have HD : Hid (∀ o ∈ ds, o ∈ os ∧ tk o) := fun o h => by rw [hrow.done] at h; exact dn_mem h
      have HL : Hid (l = wl ds) := by show l = _; rw [hrow.text, hrow.done, dn_wrs]
      have gle : w.heap.size ≤ g := by omega
      have O1 := Lib.hid hrow.row; have B1 := Lib.hid hrow.below; have GD := Lib.hid hrow.gd
      have D1 := Lib.hid (penData_any g R cr l wr hrow.pen (by omega))
      clear hrow
      go_wp2_with fail
      with_reducible refine D1.out.mono ?_
      rintro e w2 ⟨Ad, ca, rfl, ho2, hb2, hf2⟩
      have O2 := step_owno O1 hb2; have B2 := step_below B1 hb2
      have D2 := Lib.hid (newEye_any Ad ca l w2 ho2.bts ho2.2.2 (by omega))
      have NB2 := hb2.size
      clear ho2 hb2 hf2 D1 O1 B1
      go_wp2_with fail
      with_reducible refine D2.out.mono ?_
      rintro e w3 ⟨x, Ae, ce, rfl, he, hx, hae, hb3⟩
      have O3 := step_owno O2 hb3; have B3 := step_below B2 hb3; have E3 := Lib.hid he
      have gx : w.heap.size ≤ x := by have := B2.out.size; omega
      clear he hx hae hb3 D2 O2 B2 NB2
      go_wp2_with fail
      go_loopw [65] (fun i wi => ∃ (k : Nat) (Ae : Option Addr) (ce : Nat) (l : List Nat), k ≤ ds.length ∧ i = .int .i64 k ∧ l.length ≤ 1073741824 ∧ Hid (l = wl (ds.drop k)) ∧ Eye wi x Ae ce l ∧ OwnO wi Rd cd ds ∧ Below w.heap.size w wi) (fun i _ => ds.length - (intOf i).toNat)
      case atStart => exact ⟨0, Ae, ce, l, by omega, rfl, htl, HL.out, E3.out, O3.out, B3.out⟩
      case round =>
        obtain ⟨k, Ae, ce, l, hk, rfl, hll, hlist, he, ho, hb⟩ := hrel
        clear E3 O3 B3 HL htl
        by_cases hlt : k < ds.length
        · obtain ⟨o, hok⟩ : ∃ o, ds[k]? = some o := ⟨_, List.getElem?_eq_getElem hlt⟩
          obtain ⟨hmem, htk⟩ := HD.out o (List.mem_of_getElem? hok)
          obtain ⟨hB, hN, hn, hs1, hs2, hk1, hk2⟩ := HO.out.1 o hmem
          obtain ⟨rb, rfl, hrb, a0, a1, a2, a3⟩ := ho.cells hok
          have Z1 := Lib.hid (Zb.new wr o)
          obtain ⟨z0, z1, z2, z3⟩ := Z1.out.cells
          have E1 := Lib.hid (he.below (below_new wr (.cells #[.int .i64 o.kd, .int .i64 o.sz, .int .u64 (o.n : Nat), .slice o.A o.bs.length o.c] 30)))
          have O1 := step_owno (Lib.hid ho) (below_new wr (.cells #[.int .i64 o.kd, .int .i64 o.sz, .int .u64 (o.n : Nat), .slice o.A o.bs.length o.c] 30))
          have B1 := step_below (Lib.hid hb) (below_new wr (.cells #[.int .i64 o.kd, .int .i64 o.sz, .int .u64 (o.n : Nat), .slice o.A o.bs.length o.c] 30))
          have xl := he.lt
          have HBs := Lib.hid hB
          have hl2 := hlist.out
          rw [wl_drop hok] at hl2
          have hand := i64_and1 o.kd
          clear he ho hb hB hN hmem
          by_cases heven : o.kd % 2 = 0
          · rw [heven] at hand
            have hread := read_u o l _ hl2 heven htk
            have D1 := Lib.hid (eyeUint_any x Ae ce l o.sz _ E1.out (by omega))
            unfold ReadU at D1
            rw [hread.1, hread.2.1, hread.2.2] at D1
            clear heven hread hl2 htk
            go_wp2_with fail
            with_reducible refine D1.out.mono ?_
            rintro e w2 ⟨rfl, A2, c2, l2, hl2, he2, hg2, ho2⟩
            have Z2 := Lib.hid (Z1.out.grownO hg2 (by omega))
            obtain ⟨y0, y1, y2, y3⟩ := Z2.out.cells
            have O2 := Lib.hid (O1.out.grown hg2 (O1.out.ne E1.out.1 (by decide)))
            have B2 := Lib.hid (B1.out.trans (grown_below (B := w.heap.size) hg2 (fun j hj => by injection hj with hj; omega) B1.out.size))
            have E2 := Lib.hid he2
            have l2l : l2.length ≤ 1073741824 := by
              have h1 := hlist.out
              rw [wl_drop hok, ← hl2.out] at h1
              have h2 : l.length = (wr1 o).length + l2.length := by rw [h1, List.length_append]
              omega
            clear D1 Z1 O1 B1 E1 z0 z1 z2 z3 a0 a1 a2 a3 he2 hg2 ho2 hlist
            go_wp2_with fail
            go_roundw
            case rel => exact ⟨k + 1, A2, c2, l2, by omega, by go_num, l2l, hl2, E2.out, O2.out, B2.out⟩
            case measure => simp [intOf]; omega
          · have h1 : o.kd % 2 = 1 := by omega
            rw [h1] at hand
            have hbl : o.bs.length ≤ 1073741824 := by
              have h2 : wr1 o = le 4 o.bs.length ++ o.bs := by unfold wr1; rw [if_neg heven]
              have h3 : l.length = (wr1 o).length + (wl (ds.drop (k + 1))).length := by rw [hl2, List.length_append]
              rw [h2, List.length_append] at h3
              omega
            have hread := read_b o l _ hl2 heven (by omega)
            have D1 := Lib.hid (eyeBytes_any x Ae ce l _ E1.out (by omega))
            unfold ReadB at D1
            rw [hread.1, hread.2.1, hread.2.2] at D1
            clear heven hread hl2 htk h1
            go_wp2_with fail
            with_reducible refine D1.out.mono ?_
            rintro e w2 ⟨Ab, cb, A2, c2, l2, bd, rfl, hbd, hob, hfb, hl2, he2, hf2, ho2⟩
            have Z2 : Hid (Zb w2 wr.heap.size o) := (hf2.block _ Z1.out.lt (by omega) (fun e => by cases e)).trans Z1.out
            obtain ⟨y0, y1, y2, y3⟩ := Z2.out.cells
            have O2 := Lib.hid (O1.out.fr hf2 (O1.out.ne E1.out.1 (by decide)) (by cases e : ow (some ⟨rb, 0, none⟩) with
              | none => exact .inl rfl
              | some j => exact .inr (fun h => by cases h)))
            have B2 := Lib.hid (B1.out.trans (hf2.below (B := w.heap.size) gx (fun j hj => by cases hj) B1.out.size))
            have E2 := Lib.hid he2
            have l2l : l2.length ≤ 1073741824 := by
              have h1 := hlist.out
              rw [wl_drop hok, ← hl2.out] at h1
              have h2 : l.length = (wr1 o).length + l2.length := by rw [h1, List.length_append]
              omega
            have v1 := conv_bts cb hob.bts
            rw [hbd.out] at v1
            have v2 := conv_bts o.c (HBs.out.below B2.out)
            have ebd : bd.length = o.bs.length := by rw [hbd.out]
            rw [ebd]
            clear D1 Z1 O1 B1 E1 z0 z1 z2 z3 a0 a1 a2 a3 he2 hf2 ho2 hlist hob hfb hbd ebd
            generalize strN o.bs = sb at *
            go_wp2_with fail
            go_roundw
            case rel => exact ⟨k + 1, A2, c2, l2, by omega, by go_num, l2l, hl2, E2.out, O2.out, B2.out⟩
            case measure => simp [intOf]; omega
        · obtain rfl : k = ds.length := by omega
          have hl0 : l = [] := by rw [hlist.out]; exact wl_nil ds
          subst hl0
          have D1 := Lib.hid (eyeUint_any x Ae ce [] 1 _ he (by simp))
          unfold ReadU at D1
          rw [show ruc [] 1 = 40 from rfl, show ruv [] 1 = 0 from rfl, show rul [] 1 = [] from rfl] at D1
          have BB := Lib.hid hb
          clear he ho hb hlist
          go_wp2_with fail
          with_reducible refine D1.out.mono ?_
          rintro e w2 ⟨rfl, A2, c2, l2, hl2, he2, hg2, ho2⟩
          have hl3 : l2 = [] := hl2.out
          subst hl3
          have B2 := Lib.hid (BB.out.trans (grown_below (B := w.heap.size) hg2 (fun j hj => by injection hj with hj; omega) BB.out.size))
          have D2 := Lib.hid (left_any x A2 c2 [] w2 he2 (by simp))
          clear D1 BB he2 hg2 ho2 hl2
          go_wp2_with fail
          with_reducible refine D2.out.mono ?_
          rintro e w3 ⟨rfl, rfl⟩
          go_wp2
          go_ret
          exact ⟨rfl, B2.out⟩
end Go.Proofs.Ytmjhmjbbfklbdaa
