/- A class in square brackets. -/
import Derived.Test.YtkljagffccommaaS10
namespace Go.Proofs.Ytkljagffccommaa
open Go.RowKit

def clsL (bs : List Nat) : Nat → (Nat → Bool) → St → Except Nat ((Nat → Bool) × St)
  | 0, _, s => .error s.i
  | n + 1, f, s => if sb bs s.i 93 then .ok (f, s.nx) else thn (itemF bs s) fun h s' => clsL bs n (fun i => f i || h i) s'
def neg? (b : Bool) (f : Nat → Bool) : Nat → Bool := if b then fun i => !f i else f
def nx? (b : Bool) (s : St) : St := if b then s.nx else s
def classF (bs : List Nat) (s : St) : Except Nat ((Nat → Bool) × St) :=
  thn (mustF bs s 91) fun _ s1 => thn (itemF bs (nx? (sb bs s1.i 94) s1)) fun f s3 => thn (clsL bs (bs.length + 1) f s3) fun h s4 => .ok (neg? (sb bs s1.i 94) h, s4)
/-- where the reader in a block stands -/
def posOf (w : World) (g : Nat) : Nat := match w.cell? ⟨g, 1, none⟩ with | some v => (intOf v).toNat | none => 0
theorem Rd.pos {w : World} {g : Nat} {A : Option Addr} {c : Nat} {bs : List Nat} {s : St} (h : Rd w g A c bs s) : posOf w g = s.i := by
  unfold posOf; rw [h.cells.2.1]; simp [intOf]
theorem CB.far4 {w : World} {g g' : Nat} {q : Nat → BitVec 64} (h : CB w g q) (hg : g ≠ g') (a b c d : Value) :
    CB ((((w.setCell ⟨g', 0, none⟩ a).setCell ⟨g', 1, none⟩ b).setCell ⟨g', 2, none⟩ c).setCell ⟨g', 3, none⟩ d) g q :=
  (((h.far hg _).far hg _).far hg _).far hg _
theorem CB.set4 {w : World} {g : Nat} {q : Nat → BitVec 64} (h : CB w g q) (r : Nat → BitVec 64) :
    CB ((((w.setCell ⟨g, 0, none⟩ (.int .u64 (uv (r 0)))).setCell ⟨g, 1, none⟩ (.int .u64 (uv (r 1)))).setCell ⟨g, 2, none⟩ (.int .u64 (uv (r 2)))).setCell ⟨g, 3, none⟩ (.int .u64 (uv (r 3)))) g r :=
  ((((h.set_ 0 (by omega) (r 0)).set_ 1 (by omega) (r 1)).set_ 2 (by omega) (r 2)).set_ 3 (by omega) (r 3)).congr fun j hj => by
    rcases (show j = 0 ∨ j = 1 ∨ j = 2 ∨ j = 3 by omega) with rfl | rfl | rfl | rfl <;> simp
/-- what the loop of a class carries -/
structure Cl (w wr : World) (g : Nat) (A : Option Addr) (c : Nat) (bs : List Nat) (s : St) (k : Nat) (q : Nat → BitVec 64) (s' : St) : Prop where
  cls : CB wr k q
  res : CB wr w.heap.size (fun _ => 0#64)
  rd : Rd wr g A c bs s'
  fg : Fg w wr g
  i : s.i + 2 ≤ s'.i
  op : s'.op = s.op
section
variable {w wr w' : World} {g : Nat} {A : Option Addr} {c : Nat} {bs : List Nat} {s s' s2 : St} {k : Nat} {q : Nat → BitVec 64}
theorem Cl.to (h : Cl w wr g A c bs s k q s') (hk : k ≠ g) (hw : w.heap.size ≠ g) (hf : Fg wr w' g) (hr : Rd w' g A c bs s2) (hi : s'.i ≤ s2.i) (ho : s2.op = s'.op) : Cl w w' g A c bs s k q s2 :=
  ⟨h.cls.fg hf hk, h.res.fg hf hw, hr, h.fg.trans hf, by have := h.i; omega, by rw [ho, h.op]⟩
theorem Cl.step (h : Cl w wr g A c bs s k q s') (hb : Below wr.heap.size wr w') : Cl w w' g A c bs s k q s' :=
  ⟨h.cls.below hb h.cls.lt, h.res.below hb h.res.lt, h.rd.below hb, h.fg.trans (Fg.of_below hb g), h.i, h.op⟩
theorem Cl.drew (h : Cl w wr g A c bs s k q s') : Cl w wr.drew g A c bs s k q s' := ⟨h.cls, h.res, h.rd.drew, h.fg.drew, h.i, h.op⟩
theorem Cl.put (h : Cl w wr g A c bs s k q s') (ol : Old A bs g w.heap.size) (hk : w.heap.size < k) (r : Nat → BitVec 64) :
    Cl w ((((wr.setCell ⟨k, 0, none⟩ (.int .u64 (uv (r 0)))).setCell ⟨k, 1, none⟩ (.int .u64 (uv (r 1)))).setCell ⟨k, 2, none⟩ (.int .u64 (uv (r 2)))).setCell ⟨k, 3, none⟩ (.int .u64 (uv (r 3)))) g A c bs s k r s' :=
  ⟨h.cls.set4 r, h.res.far4 (by omega) _ _ _ _, h.rd.ends4 ol (by omega) _ _ _ _, h.fg.ends4 (by omega) _ _ _ _, h.i, h.op⟩
end

set_option maxHeartbeats 4000000 in
theorem class_any (g : Nat) (A : Option Addr) (c : Nat) (bs : List Nat) (s : St) (w : World) (h : Rd w g A c bs s) :
    Calls Try.prog 115 #[.pointer (some ⟨g, 0, none⟩)] w (Does w g A c bs s 1 (classF bs s) isCls) := by
  have H0 : Hid (CB (w.alloc (.cells #[.int .u64 0, .int .u64 0, .int .u64 0, .int .u64 0] 26)) w.heap.size (fun _ => 0#64)) := CB.new w (fun _ => 0#64)
  have R0 : Hid (Rd (w.alloc (.cells #[.int .u64 0, .int .u64 0, .int .u64 0, .int .u64 0] 26)) g A c bs s) := h.alloc _
  have F0 : Hid (Fg w (w.alloc (.cells #[.int .u64 0, .int .u64 0, .int .u64 0, .int .u64 0] 26)) g) := (Fg.refl w g).alloc _
  have OL := Lib.hid h.old
  have glt := h.lt
  have D1 := must_any g A c bs s 91 _ R0.out
  clear h
  cases h1 : mustF bs s 91 with
  | error p =>
    have E : Hid (classF bs s = .error p) := by show classF bs s = _; unfold classF; rw [h1]; rfl
    rw [h1] at D1
    have D1 := Lib.hid D1
    go_enter Try.func115, Try.ntmps115
    go_wp2_with fail
    refine D1.out.mono ?_
    rintro e w2 ⟨rfl, hf2⟩
    go_wp2
    exact ⟨rfl, Does.err E.out (F0.out.trans hf2)⟩
  | ok x =>
  obtain ⟨_, s1⟩ := x
  rw [h1] at D1
  have D1 := Lib.hid D1
  have E1 : Hid (classF bs s = thn (itemF bs (nx? (sb bs s1.i 94) s1)) fun f s3 => thn (clsL bs (bs.length + 1) f s3) fun h s4 => .ok (neg? (sb bs s1.i 94) h, s4)) := by show classF bs s = _; unfold classF; rw [h1]; rfl
  clear h1
  go_enter Try.func115, Try.ntmps115
  go_wp2_with fail
  refine D1.out.mono ?_
  rintro e w1 ⟨v1, rfl, rfl, hr1, hf1, hi1, ho1⟩
  have F1 := Lib.hid (F0.out.trans hf1); have H1 := Lib.hid (H0.out.fg hf1 (by omega))
  have D2 := takes_any g A c bs s1 94 w1 hr1
  replace D2 : Calls Try.prog 74 #[.pointer (some ⟨g, 0, none⟩), .int .u8 94] w1 (To w1 g A c bs (nx? (sb bs s1.i 94) s1) (.bool (sb bs s1.i 94))) := D2
  have N2 : s1.i ≤ (nx? (sb bs s1.i 94) s1).i ∧ (nx? (sb bs s1.i 94) s1).op = s1.op := by
    unfold nx?; split <;> simp [St.nx]
  generalize sb bs s1.i 94 = neg at *
  generalize nx? neg s1 = s2 at *
  have D2 := Lib.hid D2
  clear hr1 hf1 D1 H0 R0 F0
  go_wp2_with fail
  refine D2.out.mono ?_
  rintro e w2 ⟨rfl, hr2, hf2⟩
  have F2 := Lib.hid (F1.out.trans hf2); have H2 := Lib.hid (H1.out.fg hf2 (by omega))
  have D3 := item_any g A c bs s2 w2 hr2
  clear hr2 hf2 D2 H1 F1
  cases h3 : itemF bs s2 with
  | error p =>
    have E : Hid (classF bs s = .error p) := by show classF bs s = _; rw [E1.out, h3]; rfl
    rw [h3] at D3
    have D3 := Lib.hid D3
    go_wp2_with fail
    refine D3.out.mono ?_
    rintro e w3 ⟨rfl, hf3⟩
    go_wp2
    exact ⟨rfl, Does.err E.out (F2.out.trans hf3)⟩
  | ok x =>
  obtain ⟨f0, s3⟩ := x
  rw [h3] at D3
  have D3 := Lib.hid D3
  obtain ⟨R, hR⟩ : ∃ R, clsL bs (bs.length + 1) f0 s3 = R := ⟨_, rfl⟩
  have E3 : Hid (classF bs s = thn R fun h s4 => .ok (neg? neg h, s4)) := by show classF bs s = _; rw [E1.out, h3, ← hR]; rfl
  have HR := Lib.hid hR
  clear h3 hR E1
  go_wp2_with fail
  refine D3.out.mono ?_
  rintro e w3 ⟨v3, rfl, ⟨q0, rfl, hq0⟩, hr3, hf3, hi3, ho3⟩
  have HQ0 := Lib.hid hq0
  have F3 := Lib.hid (F2.out.trans hf3); have H3 := Lib.hid (H2.out.fg hf3 (by omega))
  have C4 : Hid (Cl w (w3.alloc (.cells (cw q0) 26)) g A c bs s w3.heap.size q0 s3) := ⟨CB.new w3 q0, H3.out.alloc _, hr3.alloc _, F3.out.alloc _, by omega, by omega⟩
  have kw : w.heap.size < w3.heap.size := H3.out.lt
  clear hq0 hr3 hf3 D3 H2 F2 H3 F3
  unfold cw at C4 ⊢
  go_wp2_with fail
  generalize w3.heap.size = k at *
  go_loopw [] (fun wr => ∃ (n : Nat) (f : Nat → Bool) (q : Nat → BitVec 64) (s' : St), Hid (clsL bs n f s' = R) ∧ bs.length < n + s'.i ∧ Hid (IsK f q) ∧ Cl w wr g A c bs s k q s') (fun wr => bs.length + 1 - posOf wr g)
  case atStart => exact ⟨bs.length + 1, f0, q0, s3, HR, by omega, HQ0, C4.out⟩
  case round =>
    obtain ⟨n, f, q, s', hcl, hn, HQ, hC⟩ := hrel
    clear HR C4 HQ0
    have hle := hC.rd.le
    have hpos := hC.rd.pos
    have D5 := takes_any g A c bs s' 93 wr hC.rd
    have C5 := Lib.hid hC
    clear hC
    have nxi : s'.nx.i = s'.i + 1 := rfl
    have nxo : s'.nx.op = s'.op := rfl
    cases n with
    | zero => exact absurd hn (by omega)
    | succ n =>
    cases h5 : sb bs s'.i 93 with
    | true =>
      have E5 : Hid (classF bs s = .ok (neg? neg f, s'.nx)) := by show classF bs s = _; rw [E3.out, ← hcl.out, clsL, h5]; rfl
      rw [h5] at D5
      have D5 := Lib.hid D5
      clear hcl h5 E3
      go_wp2_with fail
      refine D5.out.mono ?_
      rintro e w5 ⟨rfl, hr5, hf5⟩
      replace hr5 : Rd w5 g A c bs s'.nx := hr5
      have C6 := Lib.hid (C5.out.to (by omega) (by omega) hf5 hr5 (by omega) rfl)
      obtain ⟨k0, k1, k2, k3, _⟩ := cb_all C6.out.cls
      clear hr5 hf5 D5 C5
      cases neg with
      | true =>
        go_wp2_with fail
        refine (not_K _ HQ).mono ?_
        rintro e w7 ⟨q7, rfl, hq7, hb7⟩
        have HQ7 := Lib.hid hq7
        have C7 := Lib.hid (C6.out.step hb7)
        obtain ⟨b0, b1, b2, b3, z0, z1, z2, z3⟩ := cb_all C7.out.res
        clear hq7 hb7 C6 k0 k1 k2 k3
        unfold cw
        go_wp2
        exact bodyPost_ret (v := .agg (cw q7)) (by simp [results, Try.results115, go_sem, cw, b0, b1, b2, b3]) rfl (Does.okk E5.out ⟨q7, rfl, HQ7.out⟩ (C7.out.rd.ends4 OL.out (Nat.le_refl _) _ _ _ _) (C7.out.fg.ends4 (Nat.le_refl _) _ _ _ _) (by have := C7.out.i; omega) C7.out.op)
      | false =>
        obtain ⟨b0, b1, b2, b3, z0, z1, z2, z3⟩ := cb_all C6.out.res
        go_wp2
        exact bodyPost_ret (v := .agg (cw q)) (by simp [results, Try.results115, go_sem, cw, b0, b1, b2, b3]) rfl (Does.okk E5.out ⟨q, rfl, HQ.out⟩ (C6.out.rd.ends4 OL.out (Nat.le_refl _) _ _ _ _) (C6.out.fg.ends4 (Nat.le_refl _) _ _ _ _) (by have := C6.out.i; omega) C6.out.op)
    | false =>
      have hcl2 := hcl.out
      rw [clsL, h5] at hcl2
      replace hcl2 : thn (itemF bs s') (fun h s' => clsL bs n (fun i => f i || h i) s') = R := hcl2
      rw [h5] at D5
      have D5 := Lib.hid D5
      clear hcl h5
      go_wp2_with fail
      refine D5.out.mono ?_
      rintro e w5 ⟨rfl, hr5, hf5⟩
      replace hr5 : Rd w5 g A c bs s' := hr5
      have C6 := Lib.hid (C5.out.to (by omega) (by omega) hf5 hr5 (by omega) rfl)
      clear hr5 hf5 D5 C5
      have C7 := Lib.hid C6.out.drew
      obtain ⟨k0, k1, k2, k3, _⟩ := cb_all C6.out.cls
      cases h8 : itemF bs s' with
      | error p =>
        have D8 := item_any g A c bs s' _ C7.out.rd
        rw [h8] at D8
        have D8 := Lib.hid D8
        have E : Hid (classF bs s = .error p) := by show classF bs s = _; rw [E3.out, ← hcl2, h8]; rfl
        clear hcl2 h8
        go_wp2_with fail
        refine wp_region_any (by kernel_rfl) ?_
        change wpAny _ _ _ _ _ _ _ (World.drew _)
        refine wpAny_take (i := 1) (v := ?_) rfl (by kernel_rfl) (by kernel_rfl) (by kernel_rfl) (fun _ _ _ h => h) (Or.inl ⟨by rfl, ?_⟩) ?_
        rotate_left 1
        · intro W
          go_simp
          try with_reducible rfl
        refine wpAny_ready (rs := [0, 2]) (by kernel_rfl) (by simp) ?_
        refine AllReady.cons rfl (fun K hK => ?_) ?_
        · go_simp
          refine hK _ _ ?_
          clear hK K
          refine wpAny_ready (rs := [2]) (by kernel_rfl) (by simp) ?_
          refine AllReady.cons rfl (fun K hK => ?_) AllReady.nil
          go_simp
          refine D8.out.mono ?_
          rintro e w9 ⟨rfl, hf9⟩
          go_wp2
          exact ⟨rfl, Does.err E.out (C6.out.fg.drew.trans hf9)⟩
        · refine AllReady.cons rfl (fun K hK => ?_) AllReady.nil
          go_simp
          refine D8.out.mono ?_
          rintro e w9 ⟨rfl, hf9⟩
          go_wp2
          exact ⟨rfl, Does.err E.out (C6.out.fg.drew.trans hf9)⟩
      | ok x =>
        obtain ⟨h, s8⟩ := x
        have D8 := item_any g A c bs s' _ C7.out.rd
        rw [h8] at D8
        have D8 := Lib.hid D8
        have HC2 : Hid (clsL bs n (fun i => f i || h i) s8 = R) := by show clsL bs n (fun i => f i || h i) s8 = R; rw [← hcl2, h8]; rfl
        clear hcl2 h8
        go_wp2_with fail
        go_region_with (first
          | (go_at_call 123; refine D8.out.mono ?_; rintro e wn ⟨v8, rfl, ⟨q8, rfl, hq8⟩, hr8, hf8, hi8, ho8⟩; have HQ8 := Lib.hid hq8; have C8 := Lib.hid (C7.out.to (by omega) (by omega) hf8 hr8 (by omega) ho8); clear hq8 hr8 hf8; obtain ⟨_, _, _, _, _, _, _, _⟩ := cb_all C8.out.cls; unfold cw)
          | (go_at_call 63; refine (or_K _ HQ HQ8).mono ?_; rintro e wn ⟨q9, rfl, hq9, hb9⟩; have HQ9 := Lib.hid hq9; have C9 := Lib.hid (C8.out.step hb9); clear hq9 hb9; obtain ⟨_, _, _, _, _, _, _, _⟩ := cb_all C9.out.cls; unfold cw))
        all_goals
          go_wp2_with fail
          have C10 := Lib.hid (C9.out.put OL.out kw q9)
          go_roundw
          case rel => exact ⟨n, _, q9, s8, HC2, by omega, HQ9, C10.out⟩
          case measure => rw [C10.out.rd.pos, hpos]; omega
end Go.Proofs.Ytkljagffccommaa
