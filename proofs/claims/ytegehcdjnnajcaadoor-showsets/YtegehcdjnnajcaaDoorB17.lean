/- A term's form: form, Show, Check. -/
import Derived.Test.YtegehcdjnnajcaaDoorB16
namespace Go.Proofs.YtegehcdjnnajcaaDoor
open Go.RowKit
theorem form_some (t : Tm) (hr : rightT t = true) (h1 : opOf t ≠ 1) : formT t ≠ [] := by
  obtain ⟨op, f, lo, hi, ks⟩ := t
  have R := right_is hr
  have o1 := R.op1
  have o8 := R.op8
  have h1 : op ≠ 1 := h1
  by_cases h5 : op ≤ 5
  · obtain ⟨c, r, e, _⟩ := leaf_okc op f lo hi ks (by omega) h5
    rw [e]; simp
  by_cases h6 : op = 6
  · subst h6
    have e1 : formT (.mk 6 f lo hi ks) = formL 6 ks true := by rw [formT]; simp
    have h2 := R.two (.inl rfl)
    have h3 := formL_len 6 rfl ks true R.kids
    rw [e1]; intro e; rw [e, List.length_nil] at h3; omega
  by_cases h7 : op = 7
  · subst h7
    have e1 : formT (.mk 7 f lo hi ks) = formL 7 ks true := by rw [formT]; simp
    have h2 := R.two (.inr rfl)
    rw [e1]
    match ks, h2 with
    | k :: r, h2 =>
      have h3 := formL_len7 r
      rw [formL_cons]
      intro e
      have := congrArg List.length e
      simp only [List.length_append, List.length_cons, List.length_nil] at this h2
      omega
  obtain rfl : op = 8 := by omega
  have e1 : formT (.mk 8 f lo hi ks) = formL 8 ks true ++ quantOf lo hi := by rw [formT]; simp
  have h2 := R.rep rfl
  match ks, h2 with
  | [k], _ =>
    obtain ⟨c, r, e, _⟩ := kid_okc 8 (.inr rfl) k (R.kids k (by simp))
    rw [e1, formL_cons, e]; simp
/-- what Show answers -/
def showR (t : Tm) : List Nat × Int := if rightT t = true then (if 200 < (formT t).length then ([], 1) else if 30 < depT t then ([], 52) else (formT t, 0)) else ([], 2)
def GivesF (w : World) (r : List Nat × Int) (e : Ending) (w' : World) : Prop := e = .returned (.tuple #[.string (strC r.1), .int .i64 r.2]) ∧ (∀ x ∈ r.1, x < 256) ∧ Below w.heap.size w w'
set_option maxRecDepth 100000 in
set_option maxHeartbeats 2000000 in
theorem term_empty0 {g : Nat} (d : TD) (hop : d.op = 1) {w : World} {A : Option Addr} {c : Nat} {l : List Nat} {o dp : Int} (h : Wb w g A c l o dp) :
    Calls Tryd.prog 24 #[.pointer (some ⟨g, 0, none⟩), d.val] w (fun e w' => e = .returned (.tuple #[]) ∧ Wb w' g A c l o dp ∧ Below w.heap.size w w') := by
  obtain ⟨op, q, tlo, thi, tA, tn, tc⟩ := d
  obtain rfl : op = 1 := hop
  have hlt := h.lt
  have nb := below_new w (.cells (TD.cells ⟨1, q, tlo, thi, tA, tn, tc⟩) 27)
  have H1 := Lib.hid (h.below nb)
  have NB := Lib.hid nb
  clear h nb
  unfold TD.cells at H1 NB
  unfold TD.val
  go_enter Tryd.func24, Tryd.ntmps24
  go_wp2
  refine bodyPost_end (results_none rfl _ _ _) rfl ?_
  exact ⟨rfl, H1.out, NB.out⟩
theorem Wb.fresh (w : World) : Wb (w.alloc (.cells #[.pointer none, .slice none 0 0, .int .i64 0, .int .i64 0] 59)) w.heap.size none 0 [] 0 0 :=
  ⟨⟨none, .inl rfl, heap_alloc_new w _⟩, ⟨World.ownsRow_nil _ _ _ _, fun x hx => by simp at hx, fun _ => rfl⟩, by unfold ow; simp⟩
theorem Wb.bytes {w : World} {g c : Nat} {A : Option Addr} {l : List Nat} {o dp : Int} (h : Wb w g A c l o dp) : ∀ x ∈ l, x < 256 := h.own.2.1
theorem GivesF.no {w w' : World} {r : List Nat × Int} {c : Int} (h : r = ([], c)) (hb : Below w.heap.size w w') : GivesF w r (.returned (.tuple #[.string ⟨#[]⟩, .int .i64 c])) w' := by
  subst h; exact ⟨rfl, fun x hx => by simp at hx, hb⟩
theorem GivesF.yes {w w' : World} {r : List Nat × Int} {l : List Nat} {c : Int} (h : r = (l, c)) (hl : ∀ x ∈ l, x < 256) (hb : Below w.heap.size w w') : GivesF w r (.returned (.tuple #[.string (strC l), .int .i64 c])) w' := by
  subst h; exact ⟨rfl, hl, hb⟩
/-- a term in a block, read from w on -/
structure Ck (w W : World) (b : Nat) (t : Tm) (d : TD) : Prop where
  bel : Below w.heap.size w W
  tr : TR W t d
  tb : TB W b d
  pow : Pow W
theorem Ck.to {w W W' : World} {b : Nat} {t : Tm} {d : TD} (h : Ck w W b t d) (hb : Below W.heap.size W W') : Ck w W' b t d :=
  ⟨h.bel.trans (hb.mono h.bel.size), h.tr.keeps hb, h.tb.below hb, h.pow.below hb⟩
/-- what writing a term leaves in a new writer -/
def Left (w : World) (g : Nat) (t : Tm) (e : Ending) (w' : World) : Prop := e = .returned (.tuple #[]) ∧ ∃ A' c' L DP, Wb w' g A' c' L 0 DP ∧ Fw w w' g none A' ∧ ((L = formT t ∧ DP = (depT t : Nat)) ∨ (200 < L.length ∧ 200 < (formT t).length)) ∧ (L = [] → A' = none)
theorem left_any (t : Tm) (d : TD) (w : World) (hr : rightT t = true) (ht : TR w t d) (hp : Pow w) : Calls Tryd.prog 24 #[.pointer (some ⟨w.heap.size, 0, none⟩), d.val] (w.alloc (.cells #[.pointer none, .slice none 0 0, .int .i64 0, .int .i64 0] 59)) (Left (w.alloc (.cells #[.pointer none, .slice none 0 0, .int .i64 0, .int .i64 0] 59)) w.heap.size t) := by
  have nb := below_new w (.cells #[.pointer none, .slice none 0 0, .int .i64 0, .int .i64 0] 59)
  have hop : d.op = opOf t := by
    cases ht with
    | mk => rfl
  by_cases h1 : opOf t = 1
  · have E : formT t = [] ∧ depT t = 0 := by
      obtain ⟨op, f, lo, hi, ks⟩ := t
      obtain rfl : op = 1 := h1
      exact ⟨by rw [formT]; simp, by rw [depT]; simp⟩
    refine (term_empty0 d (by omega) (Wb.fresh w)).mono ?_
    rintro e w' ⟨rfl, hb, hbel⟩
    exact ⟨rfl, none, 0, [], 0, hb, Fw.of_below hbel _ _, .inl ⟨E.1.symm, by rw [E.2]; rfl⟩, fun _ => rfl⟩
  · have hs : SetW w.heap.size := fun q f hq W A c l o dp h hl => set_any q f hq h hl
    have hq : QuantW w w.heap.size := fun lo hi hb W A c l o dp hin h hl => quantW_any lo hi hb h (hp.below hin.below) hl
    have hin : In w (w.alloc (.cells #[.pointer none, .slice none 0 0, .int .i64 0, .int .i64 0] 59)) w.heap.size none := ⟨nb, Nat.le_refl _, fun k hk => by unfold ow at hk; simp at hk⟩
    have P := (puts_all w hs hq t hr d ht).2.1 _ none 0 [] 0 0 hin (Wb.fresh w) (by omega) (by simp) (by simp)
    refine P.mono ?_
    rintro e w' ⟨rfl, A', c', l', dp', hb, hf, hres⟩
    have hne := form_some t hr h1
    rcases hres.out with ⟨e1, e2⟩ | ⟨e1, e2⟩
    · rw [List.nil_append] at e1
      refine ⟨rfl, A', c', l', dp', hb, hf, .inl ⟨e1, ?_⟩, fun h => absurd (e1.symm.trans h) hne⟩
      rw [e2]
      unfold upD
      split
      · rename_i h; rw [h]; rfl
      · omega
    · rw [List.nil_append] at e2
      exact ⟨rfl, A', c', l', dp', hb, hf, .inr ⟨e1, e2⟩, fun h => by rw [h] at e1; simp at e1⟩
set_option maxRecDepth 100000 in
set_option maxHeartbeats 4000000 in
theorem form_any (t : Tm) (d : TD) (w : World) (ht : TR w t d) (hp : Pow w) : Calls Tryd.prog 19 #[d.val] w (GivesF w (showR t)) := by
  have nb := below_new w (.cells d.cells 27)
  have C1 : Hid (Ck w (w.alloc (.cells d.cells 27)) w.heap.size t d) := ⟨nb, ht.keeps nb, TB.new w d, hp.below nb⟩
  have D1 := Lib.hid (isRight_any t d _ C1.out.tr)
  clear ht hp nb
  have hop : d.op = opOf t := by
    cases C1.out.tr with
    | mk => rfl
  unfold TD.cells at C1 D1
  unfold TD.val at D1 ⊢
  cases hr : rightT t with
  | false =>
    have E : showR t = ([], 2) := by unfold showR; rw [hr]; rfl
    have E := Lib.hid E
    rw [hr] at D1
    clear hr hop
    go_enter Tryd.func19, Tryd.ntmps19
    go_wp2_with fail
    refine D1.out.mono ?_
    rintro e w2 ⟨rfl, hb2⟩
    have C2 := Lib.hid (C1.out.to hb2)
    clear D1 hb2 C1
    go_wp2
    go_ret2
    exact GivesF.no E.out C2.out.bel
  | true =>
    rw [hr] at D1
    have HR := Lib.hid hr
    have HO := Lib.hid hop
    clear hr hop
    go_enter Tryd.func19, Tryd.ntmps19
    go_wp2_with fail
    refine D1.out.mono ?_
    rintro e w2 ⟨rfl, hb2⟩
    have C2 := Lib.hid (C1.out.to hb2)
    have W2 := Lib.hid (Wb.fresh w2)
    have nb2 := below_new w2 (.cells #[.pointer none, .slice none 0 0, .int .i64 0, .int .i64 0] 59)
    have C3 := Lib.hid (C2.out.to nb2)
    have IN : Hid (In w2 (w2.alloc (.cells #[.pointer none, .slice none 0 0, .int .i64 0, .int .i64 0] 59)) w2.heap.size none) := ⟨nb2, Nat.le_refl _, fun k hk => by unfold ow at hk; simp at hk⟩
    obtain ⟨⟨x0, x1, x2, x3, x4, x5, x6, x7⟩, -⟩ := C3.out.tb.all
    have lt2 := C2.out.tb.lt
    have D2 := left_any t d w2 HR.out C2.out.tr C2.out.pow
    unfold TD.val at D2
    have D2 := Lib.hid D2
    clear D1 hb2 C1 nb2 W2
    go_wp2_with fail
    refine D2.out.mono ?_
    rintro e w4 ⟨rfl, A4, c4, L, DP, hb4, hf4, hL, hA4⟩
    have H4 := Lib.hid hb4
    have IN4 := Lib.hid (IN.out.next hf4)
    have C4 : Hid (Below w.heap.size w w4) := C2.out.bel.trans (IN4.out.below.mono C2.out.bel.size)
    have HA := Lib.hid hA4
    have SZ : Hid (w.heap.size ≤ w2.heap.size) := C2.out.bel.size
    clear D2 hb4 hf4 hA4 IN C3 x0 x1 x2 x3 x4 x5 x6 x7
    have D3 := isFull_any H4.out
    have lt4 := H4.out.lt
    by_cases hfull : 200 < L.length
    · have E : showR t = ([], 1) := by
        have h2 : 200 < (formT t).length := by
          rcases hL with ⟨a, _⟩ | ⟨_, b⟩
          · rw [← a]; exact hfull
          · exact b
        unfold showR; rw [if_pos HR.out, if_pos h2]
      have E := Lib.hid E
      rw [decide_eq_true hfull] at D3
      have D3 := Lib.hid D3
      clear hL hfull
      go_wp2_with fail
      refine D3.out.mono ?_
      rintro e w5 ⟨rfl, hb5⟩
      have B5 := Lib.hid (C4.out.trans (hb5.mono C4.out.size))
      clear D3 hb5
      go_wp2
      go_ret2
      exact GivesF.no E.out B5.out
    · have hL2 : L = formT t ∧ DP = (depT t : Nat) := by
        rcases hL with h | ⟨h, _⟩
        · exact h
        · exact absurd h hfull
      obtain ⟨e1, rfl⟩ := hL2
      have hle : ¬ 200 < (formT t).length := by rw [← e1]; exact hfull
      rw [decide_eq_false hfull] at D3
      have D3 := Lib.hid D3
      have E1 := Lib.hid e1
      clear hL hfull e1
      by_cases hd : 30 < depT t
      · have E : showR t = ([], 52) := by unfold showR; rw [if_pos HR.out, if_neg hle, if_pos hd]
        have E := Lib.hid E
        have qd : (30 : Int) < ((depT t : Nat) : Int) := by omega
        generalize depT t = k at *
        clear hle hd
        go_wp2_with fail
        refine D3.out.mono ?_
        rintro e w5 ⟨rfl, hb5⟩
        have B5 := Lib.hid (C4.out.trans (hb5.mono C4.out.size))
        have H5 := Lib.hid (H4.out.below hb5)
        have c3 := H5.out.cells.2.2.2.1
        have lt5 := H5.out.lt
        clear D3 hb5 H4
        go_wp2
        go_ret2
        exact GivesF.no E.out B5.out
      · have E : showR t = (formT t, 0) := by unfold showR; rw [if_pos HR.out, if_neg hle, if_neg hd]
        rw [← E1.out] at E
        have E := Lib.hid E
        have qd : ¬ (30 : Int) < ((depT t : Nat) : Int) := by omega
        generalize depT t = k at *
        clear hle hd
        go_wp2_with fail
        refine D3.out.mono ?_
        rintro e w5 ⟨rfl, hb5⟩
        have B5 := Lib.hid (C4.out.trans (hb5.mono C4.out.size))
        have H5 := Lib.hid (H4.out.below hb5)
        have IN5 := Lib.hid (IN4.out.next (Fw.of_below hb5 _ _))
        have c3 := H5.out.cells.2.2.2.1
        have lt5 := H5.out.lt
        have D4 : Hid (Calls Tryd.prog 26 #[.pointer (some ⟨w2.heap.size, 0, none⟩)] w5 (Told w5 A4 L)) := by
          by_cases h0 : L = []
          · have := HA.out h0
            subst this
            subst h0
            exact string_nil H5.out
          · exact string_some H5.out h0
        have BY := Lib.hid H5.out.bytes
        clear D3 hb5 H4 IN4 C4 HA E1
        go_wp2_with fail
        refine D4.out.mono ?_
        rintro e w6 ⟨rfl, hg6⟩
        have B6 := Lib.hid (Below.grown B5.out hg6 (Nat.le_trans SZ.out IN5.out.below.size) fun k hk => Nat.le_trans SZ.out (IN5.out.row k hk))
        clear D4 hg6 H5 IN5 B5 c3
        go_wp2
        go_ret2
        exact GivesF.yes E.out BY.out B6.out
end Go.Proofs.YtegehcdjnnajcaaDoor
