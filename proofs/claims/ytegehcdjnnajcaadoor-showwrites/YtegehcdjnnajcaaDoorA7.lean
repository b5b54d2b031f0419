/- A term's form: form, Show, Check. Show and Check. The reference's Has and From: their contracts. The reference's Of: its contract. What the laws' examples are made of: sets of letters, forms that are told. -/
import Derived.Test.YtegehcdjnnajcaaDoorB16
import Derived.Test.YtegehcdjnnajcaaDoorU1
import Derived.Deep.WholeRow
import Derived.Laws.BytesArg
namespace Go.Proofs.YtegehcdjnnajcaaDoor
open Go.RowKit
theorem form_some (t : Tm) (hr : rightT t = true) (h1 : opOf t ≠ 1) : formT t ≠ [] := by
  obtain ⟨op, f, lo, hi, ks⟩ := t
  have R := right_is hr
  have o1 := R.op1
  have o8 := R.op8
  have h1 : op ≠ 1 := h1
  by_cases h5 : op ≤ 5
  · obtain ⟨c, r, e, _⟩ := leaf_okc op f lo hi ks (by omega) h5
    rw [e]; simp
  by_cases h6 : op = 6
  · subst h6
    have e1 : formT (.mk 6 f lo hi ks) = formL 6 ks true := by rw [formT]; simp
    have h2 := R.two (.inl rfl)
    have h3 := formL_len 6 rfl ks true R.kids
    rw [e1]; intro e; rw [e, List.length_nil] at h3; omega
  by_cases h7 : op = 7
  · subst h7
    have e1 : formT (.mk 7 f lo hi ks) = formL 7 ks true := by rw [formT]; simp
    have h2 := R.two (.inr rfl)
    rw [e1]
    match ks, h2 with
    | k :: r, h2 =>
      have h3 := formL_len7 r
      rw [formL_cons]
      intro e
      have := congrArg List.length e
      simp only [List.length_append, List.length_cons, List.length_nil] at this h2
      omega
  obtain rfl : op = 8 := by omega
  have e1 : formT (.mk 8 f lo hi ks) = formL 8 ks true ++ quantOf lo hi := by rw [formT]; simp
  have h2 := R.rep rfl
  match ks, h2 with
  | [k], _ =>
    obtain ⟨c, r, e, _⟩ := kid_okc 8 (.inr rfl) k (R.kids k (by simp))
    rw [e1, formL_cons, e]; simp
/-- what Show answers -/
def showR (t : Tm) : List Nat × Int := if rightT t = true then (if 200 < (formT t).length then ([], 1) else if 30 < depT t then ([], 52) else (formT t, 0)) else ([], 2)
def GivesF (w : World) (r : List Nat × Int) (e : Ending) (w' : World) : Prop := e = .returned (.tuple #[.string (strC r.1), .int .i64 r.2]) ∧ (∀ x ∈ r.1, x < 256) ∧ Below w.heap.size w w'
set_option maxRecDepth 100000 in
set_option maxHeartbeats 2000000 in
theorem term_empty0 {g : Nat} (d : TD) (hop : d.op = 1) {w : World} {A : Option Addr} {c : Nat} {l : List Nat} {o dp : Int} (h : Wb w g A c l o dp) :
    Calls Tryd.prog 24 #[.pointer (some ⟨g, 0, none⟩), d.val] w (fun e w' => e = .returned (.tuple #[]) ∧ Wb w' g A c l o dp ∧ Below w.heap.size w w') := by
  obtain ⟨op, q, tlo, thi, tA, tn, tc⟩ := d
  obtain rfl : op = 1 := hop
  have hlt := h.lt
  have nb := below_new w (.cells (TD.cells ⟨1, q, tlo, thi, tA, tn, tc⟩) 27)
  have H1 := Lib.hid (h.below nb)
  have NB := Lib.hid nb
  clear h nb
  unfold TD.cells at H1 NB
  unfold TD.val
  go_enter Tryd.func24, Tryd.ntmps24
  go_wp2
  refine bodyPost_end (results_none rfl _ _ _) rfl ?_
  exact ⟨rfl, H1.out, NB.out⟩
theorem Wb.fresh (w : World) : Wb (w.alloc (.cells #[.pointer none, .slice none 0 0, .int .i64 0, .int .i64 0] 59)) w.heap.size none 0 [] 0 0 :=
  ⟨⟨none, .inl rfl, heap_alloc_new w _⟩, ⟨World.ownsRow_nil _ _ _ _, fun x hx => by simp at hx, fun _ => rfl⟩, by unfold ow; simp⟩
theorem Wb.bytes {w : World} {g c : Nat} {A : Option Addr} {l : List Nat} {o dp : Int} (h : Wb w g A c l o dp) : ∀ x ∈ l, x < 256 := h.own.2.1
theorem GivesF.no {w w' : World} {r : List Nat × Int} {c : Int} (h : r = ([], c)) (hb : Below w.heap.size w w') : GivesF w r (.returned (.tuple #[.string ⟨#[]⟩, .int .i64 c])) w' := by
  subst h; exact ⟨rfl, fun x hx => by simp at hx, hb⟩
theorem GivesF.yes {w w' : World} {r : List Nat × Int} {l : List Nat} {c : Int} (h : r = (l, c)) (hl : ∀ x ∈ l, x < 256) (hb : Below w.heap.size w w') : GivesF w r (.returned (.tuple #[.string (strC l), .int .i64 c])) w' := by
  subst h; exact ⟨rfl, hl, hb⟩
/-- a term in a block, read from w on -/
structure Ck (w W : World) (b : Nat) (t : Tm) (d : TD) : Prop where
  bel : Below w.heap.size w W
  tr : TR W t d
  tb : TB W b d
  pow : Pow W
theorem Ck.to {w W W' : World} {b : Nat} {t : Tm} {d : TD} (h : Ck w W b t d) (hb : Below W.heap.size W W') : Ck w W' b t d :=
  ⟨h.bel.trans (hb.mono h.bel.size), h.tr.keeps hb, h.tb.below hb, h.pow.below hb⟩
/-- what writing a term leaves in a new writer -/
def Left (w : World) (g : Nat) (t : Tm) (e : Ending) (w' : World) : Prop := e = .returned (.tuple #[]) ∧ ∃ A' c' L DP, Wb w' g A' c' L 0 DP ∧ Fw w w' g none A' ∧ ((L = formT t ∧ DP = (depT t : Nat)) ∨ (200 < L.length ∧ 200 < (formT t).length)) ∧ (L = [] → A' = none)
theorem left_any (t : Tm) (d : TD) (w : World) (hr : rightT t = true) (ht : TR w t d) (hp : Pow w) : Calls Tryd.prog 24 #[.pointer (some ⟨w.heap.size, 0, none⟩), d.val] (w.alloc (.cells #[.pointer none, .slice none 0 0, .int .i64 0, .int .i64 0] 59)) (Left (w.alloc (.cells #[.pointer none, .slice none 0 0, .int .i64 0, .int .i64 0] 59)) w.heap.size t) := by
  have nb := below_new w (.cells #[.pointer none, .slice none 0 0, .int .i64 0, .int .i64 0] 59)
  have hop : d.op = opOf t := by
    cases ht with
    | mk => rfl
  by_cases h1 : opOf t = 1
  · have E : formT t = [] ∧ depT t = 0 := by
      obtain ⟨op, f, lo, hi, ks⟩ := t
      obtain rfl : op = 1 := h1
      exact ⟨by rw [formT]; simp, by rw [depT]; simp⟩
    refine (term_empty0 d (by omega) (Wb.fresh w)).mono ?_
    rintro e w' ⟨rfl, hb, hbel⟩
    exact ⟨rfl, none, 0, [], 0, hb, Fw.of_below hbel _ _, .inl ⟨E.1.symm, by rw [E.2]; rfl⟩, fun _ => rfl⟩
  · have hs : SetW w.heap.size := fun q f hq W A c l o dp h hl => set_any q f hq h hl
    have hq : QuantW w w.heap.size := fun lo hi hb W A c l o dp hin h hl => quantW_any lo hi hb h (hp.below hin.below) hl
    have hin : In w (w.alloc (.cells #[.pointer none, .slice none 0 0, .int .i64 0, .int .i64 0] 59)) w.heap.size none := ⟨nb, Nat.le_refl _, fun k hk => by unfold ow at hk; simp at hk⟩
    have P := (puts_all w hs hq t hr d ht).2.1 _ none 0 [] 0 0 hin (Wb.fresh w) (by omega) (by simp) (by simp)
    refine P.mono ?_
    rintro e w' ⟨rfl, A', c', l', dp', hb, hf, hres⟩
    have hne := form_some t hr h1
    rcases hres.out with ⟨e1, e2⟩ | ⟨e1, e2⟩
    · rw [List.nil_append] at e1
      refine ⟨rfl, A', c', l', dp', hb, hf, .inl ⟨e1, ?_⟩, fun h => absurd (e1.symm.trans h) hne⟩
      rw [e2]
      unfold upD
      split
      · rename_i h; rw [h]; rfl
      · omega
    · rw [List.nil_append] at e2
      exact ⟨rfl, A', c', l', dp', hb, hf, .inr ⟨e1, e2⟩, fun h => by rw [h] at e1; simp at e1⟩
set_option maxRecDepth 100000 in
set_option maxHeartbeats 4000000 in
theorem form_any (t : Tm) (d : TD) (w : World) (ht : TR w t d) (hp : Pow w) : Calls Tryd.prog 19 #[d.val] w (GivesF w (showR t)) := by
  have nb := below_new w (.cells d.cells 27)
  have C1 : Hid (Ck w (w.alloc (.cells d.cells 27)) w.heap.size t d) := ⟨nb, ht.keeps nb, TB.new w d, hp.below nb⟩
  have D1 := Lib.hid (isRight_any t d _ C1.out.tr)
  clear ht hp nb
  have hop : d.op = opOf t := by
    cases C1.out.tr with
    | mk => rfl
  unfold TD.cells at C1 D1
  unfold TD.val at D1 ⊢
  cases hr : rightT t with
  | false =>
    have E : showR t = ([], 2) := by unfold showR; rw [hr]; rfl
    have E := Lib.hid E
    rw [hr] at D1
    clear hr hop
    go_enter Tryd.func19, Tryd.ntmps19
    go_wp2_with fail
    refine D1.out.mono ?_
    rintro e w2 ⟨rfl, hb2⟩
    have C2 := Lib.hid (C1.out.to hb2)
    clear D1 hb2 C1
    go_wp2
    go_ret2
    exact GivesF.no E.out C2.out.bel
  | true =>
    rw [hr] at D1
    have HR := Lib.hid hr
    have HO := Lib.hid hop
    clear hr hop
    go_enter Tryd.func19, Tryd.ntmps19
    go_wp2_with fail
    refine D1.out.mono ?_
    rintro e w2 ⟨rfl, hb2⟩
    have C2 := Lib.hid (C1.out.to hb2)
    have W2 := Lib.hid (Wb.fresh w2)
    have nb2 := below_new w2 (.cells #[.pointer none, .slice none 0 0, .int .i64 0, .int .i64 0] 59)
    have C3 := Lib.hid (C2.out.to nb2)
    have IN : Hid (In w2 (w2.alloc (.cells #[.pointer none, .slice none 0 0, .int .i64 0, .int .i64 0] 59)) w2.heap.size none) := ⟨nb2, Nat.le_refl _, fun k hk => by unfold ow at hk; simp at hk⟩
    obtain ⟨⟨x0, x1, x2, x3, x4, x5, x6, x7⟩, -⟩ := C3.out.tb.all
    have lt2 := C2.out.tb.lt
    have D2 := left_any t d w2 HR.out C2.out.tr C2.out.pow
    unfold TD.val at D2
    have D2 := Lib.hid D2
    clear D1 hb2 C1 nb2 W2
    go_wp2_with fail
    refine D2.out.mono ?_
    rintro e w4 ⟨rfl, A4, c4, L, DP, hb4, hf4, hL, hA4⟩
    have H4 := Lib.hid hb4
    have IN4 := Lib.hid (IN.out.next hf4)
    have C4 : Hid (Below w.heap.size w w4) := C2.out.bel.trans (IN4.out.below.mono C2.out.bel.size)
    have HA := Lib.hid hA4
    have SZ : Hid (w.heap.size ≤ w2.heap.size) := C2.out.bel.size
    clear D2 hb4 hf4 hA4 IN C3 x0 x1 x2 x3 x4 x5 x6 x7
    have D3 := isFull_any H4.out
    have lt4 := H4.out.lt
    by_cases hfull : 200 < L.length
    · have E : showR t = ([], 1) := by
        have h2 : 200 < (formT t).length := by
          rcases hL with ⟨a, _⟩ | ⟨_, b⟩
          · rw [← a]; exact hfull
          · exact b
        unfold showR; rw [if_pos HR.out, if_pos h2]
      have E := Lib.hid E
      rw [decide_eq_true hfull] at D3
      have D3 := Lib.hid D3
      clear hL hfull
      go_wp2_with fail
      refine D3.out.mono ?_
      rintro e w5 ⟨rfl, hb5⟩
      have B5 := Lib.hid (C4.out.trans (hb5.mono C4.out.size))
      clear D3 hb5
      go_wp2
      go_ret2
      exact GivesF.no E.out B5.out
    · have hL2 : L = formT t ∧ DP = (depT t : Nat) := by
        rcases hL with h | ⟨h, _⟩
        · exact h
        · exact absurd h hfull
      obtain ⟨e1, rfl⟩ := hL2
      have hle : ¬ 200 < (formT t).length := by rw [← e1]; exact hfull
      rw [decide_eq_false hfull] at D3
      have D3 := Lib.hid D3
      have E1 := Lib.hid e1
      clear hL hfull e1
      by_cases hd : 30 < depT t
      · have E : showR t = ([], 52) := by unfold showR; rw [if_pos HR.out, if_neg hle, if_pos hd]
        have E := Lib.hid E
        have qd : (30 : Int) < ((depT t : Nat) : Int) := by omega
        generalize depT t = k at *
        clear hle hd
        go_wp2_with fail
        refine D3.out.mono ?_
        rintro e w5 ⟨rfl, hb5⟩
        have B5 := Lib.hid (C4.out.trans (hb5.mono C4.out.size))
        have H5 := Lib.hid (H4.out.below hb5)
        have c3 := H5.out.cells.2.2.2.1
        have lt5 := H5.out.lt
        clear D3 hb5 H4
        go_wp2
        go_ret2
        exact GivesF.no E.out B5.out
      · have E : showR t = (formT t, 0) := by unfold showR; rw [if_pos HR.out, if_neg hle, if_neg hd]
        rw [← E1.out] at E
        have E := Lib.hid E
        have qd : ¬ (30 : Int) < ((depT t : Nat) : Int) := by omega
        generalize depT t = k at *
        clear hle hd
        go_wp2_with fail
        refine D3.out.mono ?_
        rintro e w5 ⟨rfl, hb5⟩
        have B5 := Lib.hid (C4.out.trans (hb5.mono C4.out.size))
        have H5 := Lib.hid (H4.out.below hb5)
        have IN5 := Lib.hid (IN4.out.next (Fw.of_below hb5 _ _))
        have c3 := H5.out.cells.2.2.2.1
        have lt5 := H5.out.lt
        have D4 : Hid (Calls Tryd.prog 26 #[.pointer (some ⟨w2.heap.size, 0, none⟩)] w5 (Told w5 A4 L)) := by
          by_cases h0 : L = []
          · have := HA.out h0
            subst this
            subst h0
            exact string_nil H5.out
          · exact string_some H5.out h0
        have BY := Lib.hid H5.out.bytes
        clear D3 hb5 H4 IN4 C4 HA E1
        go_wp2_with fail
        refine D4.out.mono ?_
        rintro e w6 ⟨rfl, hg6⟩
        have B6 := Lib.hid (Below.grown B5.out hg6 (Nat.le_trans SZ.out IN5.out.below.size) fun k hk => Nat.le_trans SZ.out (IN5.out.row k hk))
        clear D4 hg6 H5 IN5 B5 c3
        go_wp2
        go_ret2
        exact GivesF.yes E.out BY.out B6.out
end Go.Proofs.YtegehcdjnnajcaaDoor
namespace Go.Proofs.YtegehcdjnnajcaaDoor
open Go.RowKit
theorem btl_stb (s : ByteArray) : btl s = stb s := rfl
def GivesS (w : World) (r : List Nat × Int) (e : Ending) (w' : World) : Prop := ∃ A c, e = .returned (.tuple #[.slice A r.1.length c, .int .i64 r.2]) ∧ Bts w' A r.1 ∧ Below w.heap.size w w'
set_option maxRecDepth 100000 in
set_option maxHeartbeats 2000000 in
theorem show_any (t : Tm) (d : TD) (w : World) (ht : TR w t d) (hp : Pow w) : Calls Tryd.prog 10 #[d.val] w (GivesS w (showR t)) := by
  have nb := below_new w (.cells d.cells 27)
  have C1 : Hid (Ck w (w.alloc (.cells d.cells 27)) w.heap.size t d) := ⟨nb, ht.keeps nb, TB.new w d, hp.below nb⟩
  have D1 := form_any t d _ C1.out.tr C1.out.pow
  generalize showR t = r at *
  obtain ⟨l, code⟩ := r
  unfold TD.val TD.cells at D1
  have D1 := Lib.hid D1
  unfold TD.cells at C1
  unfold TD.val
  clear ht hp nb
  go_enter Tryd.func10, Tryd.ntmps10
  go_wp2_with fail
  refine D1.out.mono ?_
  rintro e w2 ⟨rfl, hl, hb2⟩
  have B2 := Lib.hid (C1.out.bel.trans (hb2.mono C1.out.bel.size))
  obtain ⟨c, W3, hcv, hB3, hb3⟩ := conv_str (strC l) w2
  have e3 : btl (strC l) = l := by rw [btl_stb]; exact sb_strC l hl
  rw [e3] at hcv hB3
  have HB := Lib.hid hB3
  have B3 := Lib.hid (B2.out.trans (hb3.mono B2.out.size))
  clear D1 hb2 hl hB3 hb3 e3 C1
  obtain ⟨n, hn⟩ : ∃ n, l.length = n := ⟨_, rfl⟩
  rw [hn] at hcv
  have HN := Lib.hid hn
  clear hn
  go_wp2
  go_ret2
  refine ⟨_, _, by rw [HN.out]; rfl, HB.out, B3.out⟩
set_option maxRecDepth 100000 in
set_option maxHeartbeats 2000000 in
theorem check_any (t : Tm) (d : TD) (w : World) (ht : TR w t d) (hp : Pow w) : Calls Tryd.prog 12 #[d.val] w (Tells w (.int .i64 (showR t).2)) := by
  have nb := below_new w (.cells d.cells 27)
  have C1 : Hid (Ck w (w.alloc (.cells d.cells 27)) w.heap.size t d) := ⟨nb, ht.keeps nb, TB.new w d, hp.below nb⟩
  have D1 := form_any t d _ C1.out.tr C1.out.pow
  generalize showR t = r at *
  obtain ⟨l, code⟩ := r
  unfold TD.val TD.cells at D1
  have D1 := Lib.hid D1
  unfold TD.cells at C1
  unfold TD.val
  clear ht hp nb
  go_enter Tryd.func12, Tryd.ntmps12
  go_wp2_with fail
  refine D1.out.mono ?_
  rintro e w2 ⟨rfl, hl, hb2⟩
  have B2 := Lib.hid (C1.out.bel.trans (hb2.mono C1.out.bel.size))
  clear D1 hb2 hl C1
  go_wp2
  go_ret
  exact ⟨rfl, B2.out⟩
end Go.Proofs.YtegehcdjnnajcaaDoor
namespace Go.Proofs.YtegehcdjnnajcaaDoor
open Go.RowKit

theorem shr_bit (x : BitVec 64) (k : Nat) : ((uv x / 2 ^ k).tmod 2 == 1) = x.getLsbD k := by
  have e : uv x / 2 ^ k = ((x.toNat / 2 ^ k : Nat) : Int) := by unfold uv; rw [Int.natCast_ediv, Int.natCast_pow]; rfl
  rw [e, Int.tmod_eq_emod_of_nonneg (Int.natCast_nonneg _), BitVec.getLsbD, Nat.testBit_eq_decide_div_mod_eq, Bool.eq_iff_iff, beq_iff_eq, decide_eq_true_eq]
  omega

set_option maxHeartbeats 1000000 in
theorem has2_any (q : Nat → BitVec 64) (b : Nat) (w : World) (hb : b < 256) : Calls Tryd.prog 55 #[.agg (cw q), .int .i64 b] w fun e w' => e = .returned (.bool (kb q b)) ∧ Below w.heap.size w w' := by
  have h1 := CB.new w q
  have hce := h1.cell (b / 64) (by omega)
  have hbl : Hid (Below w.heap.size w (w.alloc (.cells (cw q) 24))) := (Below.refl _ _).alloc (Nat.le_refl _) _
  have hkb : Hid (kb q b = (q (b / 64)).getLsbD (b % 64)) := rfl
  generalize q (b / 64) = x at hce hkb
  unfold cw at hce hbl ⊢
  clear h1
  go_enter Tryd.func55, Tryd.ntmps55
  go_wp2_with fail
  go_ret
  exact ⟨show Ending.returned (.bool ((uv x / 2 ^ (b % 64)).tmod 2 == 1)) = _ by rw [shr_bit, hkb.out], hbl.out⟩

def bc (f : Nat → Bool) : Array Value := ((List.range 256).map fun i => Value.bool (f i)).toArray
def BK (w : World) (g : Nat) (f : Nat → Bool) : Prop := w.heap[g]? = some (.cells (bc f) 70 (0, 0))
theorem bc_size (f : Nat → Bool) : (bc f).size = 256 := by simp [bc]
theorem BK.lt {w : World} {g : Nat} {f : Nat → Bool} (h : BK w g f) : g < w.heap.size := by
  rcases Nat.lt_or_ge g w.heap.size with hlt | hge
  · exact hlt
  · unfold BK at h; rw [Array.getElem?_eq_none hge] at h; cases h
theorem BK.cell {w : World} {g : Nat} {f : Nat → Bool} (h : BK w g f) (j : Nat) (hj : j < 256) : w.cell? ⟨g, j, none⟩ = some (.bool (f j)) := by
  rw [cell_of_row w g j (bc f) 70 (0, 0) h]
  unfold bc
  simp [hj]
theorem BK.frozen {w : World} {g : Nat} {f : Nat → Bool} (h : BK w g f) (j : Nat) : w.frozen? ⟨g, j, none⟩ = false := frozen_of_row w g j (bc f) 70 h
theorem BK.below {w w' : World} {g B : Nat} {f : Nat → Bool} (h : BK w g f) (hb : Below B w w') (hg : g < B) : BK w' g f := (hb.block g hg).trans h
theorem BK.far {w : World} {g : Nat} {f : Nat → Bool} (h : BK w g f) {p : Addr} (hp : g ≠ p.block) (u : Value) : BK (w.setCell p u) g f := (Below.heap_setCell w p u g hp).trans h
theorem BK.alloc {w : World} {g : Nat} {f : Nat → Bool} (h : BK w g f) (o : Obj) : BK (w.alloc o) g f := (Below.heap_alloc w o g h.lt).trans h
theorem BK.new (w : World) (f : Nat → Bool) : BK (w.alloc (.cells (bc f) 70)) w.heap.size f := heap_alloc_new w _
theorem BK.set {w : World} {g : Nat} {f : Nat → Bool} (h : BK w g f) (j : Nat) (v : Bool) : BK (w.setCell ⟨g, j, none⟩ (.bool v)) g (fun i => if i = j then v else f i) := by
  unfold BK at h ⊢
  rw [heap_setCell_same w g j (bc f) 70 (.bool v) h]
  congr 2
  apply Array.ext_getElem?
  intro i
  unfold bc
  rw [Array.getElem?_setIfInBounds]
  by_cases hi : i < 256
  · by_cases e : j = i
    · subst e; simp [hi]
    · have e' : ¬ i = j := fun h => e h.symm
      simp [hi, e, e']
  · simp [hi]; omega

def frq (f : Nat → Bool) : Nat → Nat → BitVec 64
  | 0 => fun _ => 0#64
  | k + 1 => if f k then setb (frq f k) k else frq f k
theorem kb_frq (f : Nat → Bool) (i : Nat) : ∀ k, kb (frq f k) i = (decide (i < k) && f i)
  | 0 => by simp [kb, frq]
  | k + 1 => by
    rw [frq]
    by_cases h : f k
    · rw [if_pos h, kb_setb, kb_frq f i k]
      by_cases e : i = k
      · subst e; simp [h]
      · rw [decide_eq_false e, Bool.or_false]; congr 1; rw [Bool.eq_iff_iff]; simp; omega
    · rw [if_neg h, kb_frq f i k]
      by_cases e : i = k
      · subst e; simp [h]
      · congr 1; rw [Bool.eq_iff_iff]; simp; omega

set_option maxRecDepth 100000 in
set_option maxHeartbeats 1000000 in
theorem from_any (f : Nat → Bool) (w : World) : Calls Tryd.prog 33 #[.agg (bc f)] w (GivesK w f) := by
  have h0 : BK (((w.alloc (.cells (bc f) 70)).alloc (.cells #[.int .u64 0, .int .u64 0, .int .u64 0, .int .u64 0] 24)).alloc (.cells #[.int .u64 0, .int .u64 0, .int .u64 0, .int .u64 0] 24)) w.heap.size f := ((BK.new w f).alloc _).alloc _
  have h3 : CB (((w.alloc (.cells (bc f) 70)).alloc (.cells #[.int .u64 0, .int .u64 0, .int .u64 0, .int .u64 0] 24)).alloc (.cells #[.int .u64 0, .int .u64 0, .int .u64 0, .int .u64 0] 24)) (w.heap.size + 1) (fun _ => 0#64) := by
    have := (CB.new (w.alloc (.cells (bc f) 70)) (fun _ => 0#64)).alloc (.cells #[.int .u64 0, .int .u64 0, .int .u64 0, .int .u64 0] 24)
    rw [World.size_alloc] at this; exact this
  have h1 : CB (((w.alloc (.cells (bc f) 70)).alloc (.cells #[.int .u64 0, .int .u64 0, .int .u64 0, .int .u64 0] 24)).alloc (.cells #[.int .u64 0, .int .u64 0, .int .u64 0, .int .u64 0] 24)) (w.heap.size + 1 + 1) (frq f 0) := by
    have := CB.new ((w.alloc (.cells (bc f) 70)).alloc (.cells #[.int .u64 0, .int .u64 0, .int .u64 0, .int .u64 0] 24)) (fun _ => 0#64)
    rw [World.size_alloc, World.size_alloc] at this; exact this
  have hb : Below w.heap.size w (((w.alloc (.cells (bc f) 70)).alloc (.cells #[.int .u64 0, .int .u64 0, .int .u64 0, .int .u64 0] 24)).alloc (.cells #[.int .u64 0, .int .u64 0, .int .u64 0, .int .u64 0] 24)) :=
    (((Below.refl _ _).alloc (Nat.le_refl _) _).alloc (by simp) _).alloc (by simp; omega) _
  have H0 := Lib.hid h0; have H1 := Lib.hid h1; have H3 := Lib.hid h3; have HB := Lib.hid hb
  clear h0 h1 h3 hb
  go_enter Tryd.func33, Tryd.ntmps33
  go_wp2_with fail
  go_loopw [4] (fun i wr => ∃ k : Nat, k ≤ 256 ∧ i = .int .i64 k ∧ BK wr w.heap.size f ∧ CB wr (w.heap.size + 1 + 1) (frq f k) ∧ CB wr (w.heap.size + 1) (fun _ => 0#64) ∧ Below w.heap.size w wr) (fun i _ => 256 - (intOf i).toNat)
  case atStart => exact ⟨0, by omega, rfl, H0.out, H1.out, H3.out, HB.out⟩
  case round =>
    obtain ⟨k, hk, rfl, h0, h1, h3, hb⟩ := hrel
    clear H0 H1 H3 HB
    have H0 := Lib.hid h0; have H1 := Lib.hid h1; have H3 := Lib.hid h3; have HB := Lib.hid hb
    by_cases hlt : k < 256
    · have c0 := h0.cell k hlt
      have HS := Lib.hid (h1.set_ (k / 64) (by omega) (frq f k (k / 64) ||| 1#64 <<< (k % 64)))
      have c1 := h1.cell (k / 64) (by omega)
      have f1 := h1.frozen (k / 64)
      generalize hold : frq f k (k / 64) = x at HS c1
      have HOLD := Lib.hid hold
      clear h0 h1 h3 hb hold
      have hp : IntKind.u64.wrap (2 ^ (k % 64)) = uv (1#64 <<< (k % 64)) := wrap_pow _ (by omega)
      cases hf : f k with
      | false =>
        rw [hf] at c0
        clear hp
        go_wp2
        go_roundw
        case rel => exact ⟨k + 1, by omega, by go_num, H0.out, by rw [frq, hf]; exact H1.out, H3.out, HB.out⟩
        case measure => simp [intOf]; omega
      | true =>
        rw [hf] at c0
        go_wp2
        simp only [uv_or]
        go_roundw
        case rel =>
          refine ⟨k + 1, by omega, by go_num, H0.out.far (by simp; omega) _, ?_, H3.out.far (by simp) _, HB.out.setCell (by simp; omega) _⟩
          have e : frq f (k + 1) = fun i => if i = k / 64 then x ||| 1#64 <<< (k % 64) else frq f k i := by
            rw [frq, if_pos hf]; unfold setb; rw [HOLD.out]
          rw [e]
          exact HS.out
        case measure => simp [intOf]; omega
    · obtain rfl : k = 256 := by omega
      have hkk : ∀ i, i < 256 → kb (frq f 256) i = f i := fun i hi => by rw [kb_frq, decide_eq_true hi, Bool.true_and]
      generalize frq f 256 = qq at h1 hkk
      have HKK := Lib.hid hkk
      have a0 := h1.cell 0 (by omega); have a1 := h1.cell 1 (by omega); have a2 := h1.cell 2 (by omega); have a3 := h1.cell 3 (by omega)
      have b0 := h3.cell 0 (by omega); have b1 := h3.cell 1 (by omega); have b2 := h3.cell 2 (by omega); have b3 := h3.cell 3 (by omega)
      have z0 := h3.frozen 0; have z1 := h3.frozen 1; have z2 := h3.frozen 2; have z3 := h3.frozen 3
      clear h0 h1 h3 hb hkk H1 H3
      go_wp2
      exact bodyPost_ret (v := .agg (cw qq)) (by simp [results, Tryd.results33, go_sem, cw, a0, a1, a2, a3, b0, b1, b2, b3]) rfl ⟨qq, rfl, HKK.out, ends4 HB.out (by simp) _ _ _ _⟩
end Go.Proofs.YtegehcdjnnajcaaDoor
namespace Go.Proofs.YtegehcdjnnajcaaDoor
open Go.RowKit

theorem zero46 : (Tryd.prog.info? 70).map (fun i => (i.zero, i.size)) = some (some (.agg (bc fun _ => false)), 256) := by kernel_rfl
def ofF (bs : List Nat) (k i : Nat) : Bool := decide (∃ j, j < k ∧ bn bs j = i)
theorem ofF_zero (bs : List Nat) : ofF bs 0 = fun _ => false := by
  funext i; unfold ofF; rw [decide_eq_false (by rintro ⟨j, hj, _⟩; omega)]
theorem ofF_succ (bs : List Nat) (k : Nat) : ofF bs (k + 1) = fun i => if i = bn bs k then true else ofF bs k i := by
  funext i
  by_cases e : i = bn bs k
  · rw [if_pos e]; unfold ofF; exact decide_eq_true ⟨k, by omega, e.symm⟩
  · rw [if_neg e]; unfold ofF; rw [Bool.eq_iff_iff]; simp only [decide_eq_true_eq]
    constructor
    · rintro ⟨j, hj, h⟩
      by_cases e2 : j = k
      · subst e2; exact absurd h.symm e
      · exact ⟨j, by omega, h⟩
    · rintro ⟨j, hj, h⟩; exact ⟨j, by omega, h⟩

set_option maxRecDepth 100000 in
set_option maxHeartbeats 4000000 in
theorem of2_any (A : Option Addr) (c : Nat) (bs : List Nat) (w : World) (hx : Bts w A bs) (lx : bs.length ≤ 9223372036854775806) : Calls Tryd.prog 22 #[.slice A bs.length c] w (GivesK w (ofF bs bs.length)) := by
  obtain ⟨z46, s46⟩ := zero_of_info zero46
  have hall : (bc fun _ => false).all (·.oneCell') = true := by kernel_rfl
  have hst0 := run_storeCells_new (P := Tryd.prog) (w.alloc (.cells #[.int .u64 0, .int .u64 0, .int .u64 0, .int .u64 0] 24)) 70 (bc fun _ => false) (bc fun _ => false) (by rw [s46, bc_size]) rfl hall
  have hsz := bc_size fun _ => false
  rw [World.size_alloc] at hst0
  have h3 : CB ((w.alloc (.cells #[.int .u64 0, .int .u64 0, .int .u64 0, .int .u64 0] 24)).alloc (.cells (bc fun _ => false) 70)) w.heap.size (fun _ => 0#64) := (CB.new w (fun _ => 0#64)).alloc (.cells (bc fun _ => false) 70)
  have h4 : BK ((w.alloc (.cells #[.int .u64 0, .int .u64 0, .int .u64 0, .int .u64 0] 24)).alloc (.cells (bc fun _ => false) 70)) (w.heap.size + 1) (ofF bs 0) := by
    have := BK.new (w.alloc (.cells #[.int .u64 0, .int .u64 0, .int .u64 0, .int .u64 0] 24)) (fun _ => false)
    rw [World.size_alloc] at this; rw [ofF_zero]; exact this
  have hb : Below w.heap.size w ((w.alloc (.cells #[.int .u64 0, .int .u64 0, .int .u64 0, .int .u64 0] 24)).alloc (.cells (bc fun _ => false) 70)) := ((Below.refl _ _).alloc (Nat.le_refl _) _).alloc (by simp) _
  have H3 := Lib.hid h3; have H4 := Lib.hid h4; have HB := Lib.hid hb; have HX := Lib.hid hx
  clear hall h3 h4 hb hx
  have HS46 := Lib.hid s46
  clear s46
  go_enter Tryd.func22, Tryd.ntmps22
  go_wp2_with fail
  clear hst0 hsz z46
  go_loopw [4] (fun i wr => ∃ k : Nat, k ≤ bs.length ∧ i = .int .i64 k ∧ CB wr w.heap.size (fun _ => 0#64) ∧ BK wr (w.heap.size + 1) (ofF bs k) ∧ Below w.heap.size w wr) (fun i _ => bs.length - (intOf i).toNat)
  case atStart => exact ⟨0, by omega, rfl, H3.out, H4.out, HB.out⟩
  case round =>
    obtain ⟨k, hk, rfl, h3, h4, hb⟩ := hrel
    clear H3 H4 HB
    by_cases hlt : k < bs.length
    · obtain ⟨b, off, rfl, hbb, hcell⟩ := (HX.out.below hb).2 (by omega)
      have hc1 := hcell k hlt
      have hq := HX.out.1 k
      have HS := Lib.hid (h4.set (bn bs k) true)
      rw [← ofF_succ] at HS
      generalize bn bs k = x at hc1 hq HS
      have c4 := h4.cell x hq
      have f4 := h4.frozen x
      have G3 := Lib.hid (h3.far (p := ⟨w.heap.size + 1, x, none⟩) (by simp) (.bool true))
      have GB := Lib.hid (hb.setCell (p := ⟨w.heap.size + 1, x, none⟩) (by simp) (.bool true))
      generalize ofF bs k x = jv at c4
      clear h3 h4 hb hcell
      go_wp2
      go_roundw
      case rel => exact ⟨k + 1, by omega, by go_num, G3.out, HS.out, GB.out⟩
      case measure => simp [intOf]; omega
    · obtain rfl : k = bs.length := by omega
      have F := Lib.hid (from_any (ofF bs bs.length) wr)
      have H3 := Lib.hid h3; have H4 := Lib.hid h4; have HB := Lib.hid hb
      clear h3 h4 hb
      go_wp2_with fail
      refine wp_load_row (P := Tryd.prog) 70 (.tmp 3) rfl (w.heap.size + 1) rfl 70 (bc (ofF bs bs.length)) (0, 0) _ H4.out Tryd.underlying70 rfl (by rw [HS46.out, bc_size]) ?_
      generalize hf : ofF bs bs.length = ff at F ⊢
      generalize bc ff = cc at F ⊢
      go_wp2_with fail
      refine F.out.mono ?_
      rintro e w2 ⟨q2, rfl, hq2, hb2⟩
      have h3 := H3.out.below hb2 H3.out.lt
      have hbb := Lib.hid (HB.out.trans (hb2.mono HB.out.size))
      have b0 := h3.cell 0 (by omega); have b1 := h3.cell 1 (by omega); have b2 := h3.cell 2 (by omega); have b3 := h3.cell 3 (by omega)
      have z0 := h3.frozen 0; have z1 := h3.frozen 1; have z2 := h3.frozen 2; have z3 := h3.frozen 3
      have HQ : Hid (IsK (ofF bs bs.length) q2) := fun i hi => by rw [hq2 i hi, hf]
      clear h3 hb2 hq2 hf H3 H4 HB F
      unfold cw
      go_wp2
      exact bodyPost_ret (v := .agg (cw q2)) (by simp [results, Tryd.results22, go_sem, cw, b0, b1, b2, b3]) rfl ⟨q2, rfl, HQ.out, ends4 hbb.out (Nat.le_refl _) _ _ _ _⟩
end Go.Proofs.YtegehcdjnnajcaaDoor
namespace Go.Proofs.YtegehcdjnnajcaaDoor
open Go.RowKit
def memF (l : List Nat) (i : Nat) : Bool := l.contains i
theorem ofF_mem (l : List Nat) : ofF l l.length = memF l := by
  funext i
  unfold ofF memF
  rw [Bool.eq_iff_iff, decide_eq_true_iff, List.contains_iff_mem]
  constructor
  · rintro ⟨j, hj, e⟩
    have e2 : bn l j = l[j] := by unfold bn; rw [List.getD, List.getElem?_eq_getElem hj]; rfl
    rw [← e, e2]; exact List.getElem_mem hj
  · intro h
    obtain ⟨j, hj, e⟩ := List.getElem_of_mem h
    exact ⟨j, hj, by unfold bn; rw [List.getD, List.getElem?_eq_getElem hj]; exact e⟩
theorem strN_eq (l : List Nat) : strOfNums (l.map fun (i : Nat) => (i : Int)) = strC l := by
  unfold strOfNums strC
  rw [List.map_map]
  rfl
theorem conv_bts {w : World} {A : Option Addr} {l : List Nat} (c : Nat) (h : Bts w A l) : (convert 31 9 (.slice A l.length c)).run Tryd.prog w = .ok (.string (strC l)) w := by
  rw [← strN_eq]
  rcases Nat.eq_zero_or_pos l.length with h0 | h0
  · obtain rfl : l = [] := List.eq_nil_of_length_eq_zero h0
    show (convert 31 9 (.slice A 0 c)).run Tryd.prog w = _
    rw [run_convert_bytes_string w 31 9 5 A 0 c Tryd.underlying31 Tryd.underlying5 Tryd.underlying9]
    cases A <;> simp [Conv.bytesToString, strOfNums] <;> rfl
  · obtain ⟨b, off, rfl, _, hc⟩ := h.2 h0
    exact run_convert_bytes_arg w 31 5 Tryd.underlying31 Tryd.underlying5 b off l.length c (l.map fun (i : Nat) => (i : Int)) (by simp) (fun i hi => by
      rw [hc i hi]; simp [bn, List.getD, List.getElem?_eq_getElem hi]) 9 Tryd.underlying9
def setD (q : Nat → BitVec 64) : TD := ⟨2, q, 0, 0, none, 0, 0⟩
theorem setD_tr {w : World} {q : Nat → BitVec 64} {f : Nat → Bool} (h : IsK f q) : TR w (setT f) (setD q) :=
  .mk 2 f 0 0 [] q none 0 [] h rfl (by simp) (fun i t d ht => by simp at ht) (fun h0 => by simp at h0)
def GivesT (w : World) (f : Nat → Bool) (e : Ending) (w' : World) : Prop := ∃ q, e = .returned (setD q).val ∧ IsK f q ∧ Below w.heap.size w w'
theorem res16 (W : World) (k : Nat) (d : TD) (T : Array Value) (h : TB W k d) (hT : T[2]? = some (.pointer (some ⟨k, 0, none⟩))) : (results Tryd.f16 T).run Tryd.prog W = .ok d.val W := by
  obtain ⟨⟨x0, x1, x2, x3, x4, x5, x6, x7⟩, _⟩ := h.all
  simp [results, Tryd.results16, go_sem, TD.val, hT, x0, x1, x2, x3, x4, x5, x6, x7]
set_option maxRecDepth 100000 in
set_option maxHeartbeats 4000000 in
theorem set16_any (s : ByteArray) (w : World) (hs : s.size ≤ 1000000) : Calls Tryd.prog 16 #[.string s] w (GivesT w (memF (btl s))) := by
  have T1 : Hid (TB (w.alloc (.cells #[.int .i64 0, .int .u64 0, .int .u64 0, .int .u64 0, .int .u64 0, .int .i64 0, .int .i64 0, .slice none 0 0] 27)) w.heap.size zT) := TB.new w zT
  obtain ⟨c, W2, hcv, hB, hb⟩ := conv_str s (w.alloc (.cells #[.int .i64 0, .int .u64 0, .int .u64 0, .int .u64 0, .int .u64 0, .int .i64 0, .int .i64 0, .slice none 0 0] 27))
  rw [World.size_alloc] at hcv hB
  have T2 := Lib.hid (T1.out.below hb)
  have hl : (btl s).length ≤ 9223372036854775806 := by rw [len_btl]; omega
  have D1 := of2_any _ c (btl s) W2 hB hl
  rw [ofF_mem] at D1
  have D1 := Lib.hid D1
  have B2 := Lib.hid ((below_new w (.cells #[.int .i64 0, .int .u64 0, .int .u64 0, .int .u64 0, .int .u64 0, .int .i64 0, .int .i64 0, .slice none 0 0] 27)).trans (hb.mono (by simp)))
  clear hB hb T1
  obtain ⟨n, hn⟩ : ∃ n, (btl s).length = n := ⟨_, rfl⟩
  rw [hn] at hcv D1
  generalize memF (btl s) = f at *
  clear hn hl
  go_enter Tryd.func16, Tryd.ntmps16
  go_wp2_with fail
  refine D1.out.mono ?_
  rintro e w3 ⟨q, rfl, hq, hb3⟩
  have T3 := Lib.hid (T2.out.below hb3)
  have B3 := Lib.hid (B2.out.trans (hb3.mono B2.out.size))
  have Q := Lib.hid hq
  have hall := T3.out.all
  obtain ⟨⟨x0, x1, x2, x3, x4, x5, x6, x7⟩, hfr⟩ := hall
  have lt3 := T3.out.lt
  unfold cw
  clear D1 hq hb3 T2 B2
  go_wp2
  have T4 := T3.out.to8 (setD q)
  have hk : w.heap.size ≤ w.heap.size := Nat.le_refl _
  refine bodyPost_ret (v := (setD q).val) (res16 _ w.heap.size (setD q) _ T4 rfl) rfl ⟨q, rfl, Q.out, ?_⟩
  exact (((((((B3.out.setCell hk _).setCell hk _).setCell hk _).setCell hk _).setCell hk _).setCell hk _).setCell hk _).setCell hk _
set_option maxRecDepth 100000 in
set_option maxHeartbeats 2000000 in
theorem shows_yes (t : Tm) (d : TD) (l : List Nat) (w : World) (ht : TR w t d) (hp : Pow w) (hs : showR t = (l, 0)) : Calls Tryd.prog 17 #[d.val, .string (strC l)] w (Tells w (.bool true)) := by
  have nb := below_new w (.cells d.cells 27)
  have C1 : Hid (Ck w (w.alloc (.cells d.cells 27)) w.heap.size t d) := ⟨nb, ht.keeps nb, TB.new w d, hp.below nb⟩
  have D1 := show_any t d _ C1.out.tr C1.out.pow
  rw [hs] at D1
  unfold TD.val TD.cells at D1
  have D1 := Lib.hid D1
  unfold TD.cells at C1
  unfold TD.val
  clear ht hp nb hs
  go_enter Tryd.func17, Tryd.ntmps17
  go_wp2_with fail
  refine D1.out.mono ?_
  rintro e w2 ⟨A, c, rfl, hB, hb2⟩
  have B2 := Lib.hid (C1.out.bel.trans (hb2.mono C1.out.bel.size))
  have cv := conv_bts c hB
  generalize strC l = s at *
  clear D1 hB hb2 C1
  go_wp2
  go_ret
  exact ⟨rfl, B2.out⟩
theorem chk_yes (t : Tm) (d : TD) (l : List Nat) (w : World) (ht : TR w t d) (hp : Pow w) (hs : showR t = (l, 0)) : Calls Tryd.prog 12 #[d.val] w (Tells w (.int .i64 0)) := by
  have := check_any t d w ht hp
  rw [hs] at this; exact this
theorem exT1 : showR (.mk 8 noB 2 2 [.mk 6 noB 0 0 [setT (memF [97]), .mk 1 noB 0 0 []]]) = ([40, 97, 40, 41, 41, 123, 50, 125], 0) := by kernel_rfl
theorem exT2 : showR (setT (memF [97, 98, 99, 120])) = ([91, 97, 45, 99, 120, 93], 0) := by kernel_rfl
theorem exT3 : showR (setT (memF [124])) = ([92, 120, 55, 99], 0) := by kernel_rfl
theorem exT4 : showR (setT (memF [97])) = ([97], 0) := by kernel_rfl
end Go.Proofs.YtegehcdjnnajcaaDoor
