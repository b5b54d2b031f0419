/- Forms laid one behind the other: pure. kids: forms of a row of terms. term: one level of it. term: the empty one and sets. Right terms are written: all of them. -/
import Derived.Test.YtegehcdjnnajcaaDoorA2
namespace Go.Proofs.YtegehcdjnnajcaaDoor
open Go.RowKit
def upTo (s : List Nat) (F : Nat → List Nat) : Nat → List Nat
  | 0 => []
  | i + 1 => upTo s F i ++ ((if 0 < i then s else []) ++ F i)
def dupTo (K : Nat → Nat) : Nat → Nat
  | 0 => 0
  | i + 1 => max (dupTo K i) (K i)
theorem upTo_mono (s : List Nat) (F : Nat → List Nat) (i j : Nat) : (upTo s F i).length ≤ (upTo s F (i + j)).length := by
  induction j with
  | zero => exact Nat.le_refl _
  | succ j ih =>
    rw [show i + (j + 1) = (i + j) + 1 by omega, upTo, List.length_append]
    omega
theorem upD_upD (dp o : Int) (a b : Nat) : upD (upD dp o a) o b = upD dp o (max a b) := by
  rcases Nat.eq_zero_or_pos a with ha | ha
  · subst ha
    have e1 : upD dp o 0 = dp := if_pos rfl
    rw [e1, Nat.zero_max]
  · have e1 : upD dp o a = max dp (o + (a : Nat)) := if_neg (by omega)
    have e3 : upD dp o (max a b) = max dp (o + ((max a b : Nat) : Int)) := if_neg (by omega)
    rw [e1, e3]
    rcases Nat.eq_zero_or_pos b with hb | hb
    · subst hb
      have e2 : upD (max dp (o + (a : Nat))) o 0 = max dp (o + (a : Nat)) := if_pos rfl
      rw [e2, Nat.max_zero]
    · have e2 : upD (max dp (o + (a : Nat))) o b = max (max dp (o + (a : Nat))) (o + (b : Nat)) := if_neg (by omega)
      rw [e2]; omega
theorem Res.start {z : Nat} (hz : z ≤ 18) (l : List Nat) (o dp : Int) : Res z l o dp [] 0 l dp :=
  ⟨.inl ⟨by simp, (if_pos rfl : upD dp o 0 = dp).symm⟩, Nat.le_refl _, fun _ => by omega, fun _ => by omega⟩
theorem Res.stop {z : Nat} {l f f2 l1 : List Nat} {o dp dp1 : Int} {k k2 : Nat} (h : Res z l o dp f k l1 dp1) (hf : 200 < l1.length) (hm : f.length ≤ f2.length) : Res z l o dp f2 k2 l1 dp1 := by
  refine ⟨.inr ⟨hf, ?_⟩, h.le, h.full, h.part⟩
  rcases h.out with ⟨a, _⟩ | ⟨_, b⟩
  · rw [a, List.length_append] at hf
    rw [List.length_append]; omega
  · rw [List.length_append] at b ⊢; omega
theorem Res.step {z : Nat} {l f l1 s f2 l2 : List Nat} {o dp dp1 dp2 : Int} {k k2 : Nat} (h : Res z l o dp f k l1 dp1) (hl : l1.length ≤ 200) (hs : s.length ≤ 1) (h2 : Res z (l1 ++ s) o dp1 f2 k2 l2 dp2) : Res z l o dp (f ++ (s ++ f2)) (max k k2) l2 dp2 := by
  have e1 := h.le
  have e2 := h2.le
  have e3 := h2.full
  have e4 := h2.part
  rw [List.length_append] at e2 e3 e4
  rcases h.out with ⟨a, b⟩ | ⟨a, _⟩
  · refine ⟨?_, by omega, fun h => by omega, fun _ => ?_⟩
    · rcases h2.out with ⟨c, d⟩ | ⟨c, d⟩
      · left
        exact ⟨by rw [c, a]; simp, by rw [d, b, upD_upD]⟩
      · right
        refine ⟨c, ?_⟩
        rw [a] at d
        simp only [List.length_append] at d ⊢
        omega
    · rcases Nat.lt_or_ge 201 (l1.length + s.length) with h5 | h5
      · have := e3 h5; omega
      · have := e4 h5; omega
  · omega
theorem Res.tail {l f l1 q : List Nat} {o dp dp1 : Int} {k : Nat} (h : Res 18 l o dp f k l1 dp1) (hq : q.length ≤ 18) : Res 0 l o dp (f ++ q) k (l1 ++ q) dp1 := by
  have e1 := h.le
  have e3 := h.full
  have e4 := h.part
  refine ⟨?_, by rw [List.length_append]; omega, fun x => by have := e3 x; rw [List.length_append]; omega, fun x => by have := e4 x; rw [List.length_append]; omega⟩
  rcases h.out with ⟨a, b⟩ | ⟨a, b⟩
  · exact .inl ⟨by rw [a, List.append_assoc], b⟩
  · refine .inr ⟨by rw [List.length_append]; omega, ?_⟩
    rw [← List.append_assoc, List.length_append]; omega
theorem upTo_len (s : List Nat) (F : Nat → List Nat) (i : Nat) : upTo s F (i + 1) = upTo s F i ++ ((if 0 < i then s else []) ++ F i) := rfl
end Go.Proofs.YtegehcdjnnajcaaDoor
namespace Go.Proofs.YtegehcdjnnajcaaDoor
open Go.RowKit
/-- some ints lie there, out of the writer's way -/
structure Js (w : World) (g : Nat) (A : Option Addr) (jb : Nat) (js : List Int) : Prop where
  cells : ∀ j v, js[j]? = some v → w.cell? ⟨jb, j, none⟩ = some (.int .i64 v)
  lt : jb < w.heap.size
  ne : jb ≠ g
  row : ow A ≠ some jb
theorem Js.fw {w w' : World} {g jb : Nat} {A A' : Option Addr} {js : List Int} (h : Js w g A jb js) (hf : Fw w w' g A A') : Js w' g A' jb js :=
  ⟨fun j v hj => (World.cell?_of_block (a := ⟨jb, j, none⟩) (hf.block jb h.lt h.ne h.row)).trans (h.cells j v hj), Nat.lt_of_lt_of_le h.lt hf.size, h.ne, row_new hf h.row h.lt⟩
/-- a kid's form, in brackets if its kind is among js -/
def inB (js : List Int) (op : Int) (f : List Nat) : List Nat := if op ∈ js then 40 :: (f ++ [41]) else f
def inD (js : List Int) (op : Int) (k : Nat) : Nat := if op ∈ js then k + 1 else k
set_option maxRecDepth 100000 in
set_option maxHeartbeats 4000000 in
theorem kids_any {z0 : Nat} (hz0 : z0 ≤ 18) {w0 : World} {g n tc jb m mc : Nat} {tA : Option Addr} {ds : List TD} {js : List Int} {s : ByteArray} {f : Nat → List Nat} {k : Nat → Nat} (hn : ds.length = n) (hn2 : n ≤ 9223372036854775807)
    (hr : 0 < n → ∃ b off, tA = some ⟨b, off, none⟩ ∧ b < w0.heap.size ∧ ∀ (i : Nat) (d : TD), ds[i]? = some d → ∀ j, j < 8 → w0.cell? ⟨b, off + i * 8 + j, none⟩ = d.cells[j]?)
    (hp : ∀ i d, ds[i]? = some d → Puts 0 w0 g d (f i) (k i)) (hp2 : ∀ i d, ds[i]? = some d → d.op ∉ js → Puts z0 w0 g d (f i) (k i)) (hs : s.size ≤ 1) (hm : m = js.length) (hm2 : m ≤ 1000)
    (w : World) (A : Option Addr) (c : Nat) (l : List Nat) (o dp : Int) (hin : In w0 w g A) (h : Wb w g A c l o dp) (h0 : 0 ≤ o) (ho : o ≤ (l.length : Nat)) (hl : l.length ≤ 200000) (hj : Js w g A jb js) (F : Nat → List Nat) (K : Nat → Nat) (hF : ∀ i d, ds[i]? = some d → F i = inB js d.op (f i) ∧ K i = inD js d.op (k i)) :
    Calls Tryd.prog 38 #[.pointer (some ⟨g, 0, none⟩), .slice tA n tc, .string s, .slice (some ⟨jb, 0, none⟩) m mc] w (Put z0 w g A l o dp (upTo (stb s) F n) (dupTo K n)) := by
  have HN := Lib.hid hn; have HR := Lib.hid hr; have HP := Lib.hid hp; have HP2 := Lib.hid hp2; have HZ := Lib.hid hz0; have HS := Lib.hid hs; have HM := Lib.hid hm; have IN := Lib.hid hin; have HB := Lib.hid h; have HJ := Lib.hid hj; have HF := Lib.hid hF
  have hlt := h.lt
  clear hn hr hp hp2 hz0 hs hm hin h hj hF
  go_enter Tryd.func38, Tryd.ntmps38
  go_wp2_with fail
  go_loopw [12] (fun v wr => ∃ (i : Nat) (A1 : Option Addr) (c1 : Nat) (l1 : List Nat) (dp1 : Int), i ≤ n ∧ v = .int .i64 (i : Nat) ∧ Hid (Wb wr g A1 c1 l1 o dp1) ∧ Hid (Fw w wr g A A1) ∧ Hid (Res z0 l o dp (upTo (stb s) F i) (dupTo K i) l1 dp1) ∧ Hid (Js wr g A1 jb js)) (fun v _ => n - (intOf v).toNat)
  case atStart => exact ⟨0, A, c, l, dp, Nat.zero_le _, rfl, HB, Fw.refl w g A, Res.start HZ.out l o dp, HJ⟩
  case round =>
    obtain ⟨i, A1, c1, l1, dp1, hi1, rfl, h1, f1, r1, j1⟩ := hrel
    by_cases hlt2 : i < n
    · have qi : (i : Int) < (n : Int) := by omega
      have hi4 : i < ds.length := by have := HN.out; omega
      obtain ⟨kb1, off1, rfl, hb1, hc1⟩ := HR.out (by omega)
      have in1 := IN.out.next f1.out
      obtain ⟨a0, a1, a2, a3, a4, a5, a6, a7⟩ := kid_cells in1.below hb1 hc1 (List.getElem?_eq_getElem hi4)
      have P1 := HP.out i _ (List.getElem?_eq_getElem hi4)
      have P2 := HP2.out i _ (List.getElem?_eq_getElem hi4)
      have FK := HF.out i _ (List.getElem?_eq_getElem hi4)
      obtain ⟨dk, hdk⟩ : ∃ d, ds[i] = d := ⟨_, rfl⟩
      rw [hdk] at a0 a1 a2 a3 a4 a5 a6 a7 P1 P2 FK
      have P1 := Lib.hid P1
      have P2 := Lib.hid P2
      have FK := Lib.hid FK
      have nb := below_new wr (.cells dk.cells 27)
      have T1 := Lib.hid (TB.new wr dk)
      have hlt3 := h1.out.lt
      have D1 := isFull_any (h1.out.below nb)
      have R1a : Hid (ow A1 ≠ some wr.heap.size) := by
        intro e
        have := h1.out.own.olt e
        omega
      have F1a := Lib.hid (Fw.of_below nb g A1)
      have H1a := Lib.hid (h1.out.below nb)
      have q6 : IntKind.i64.wrap ((i : Int) + 1) = ((i + 1 : Nat) : Int) := by rw [IntWalk.i64_in _ (by omega)]; omega
      by_cases hfull : 200 < l1.length
      · rw [decide_eq_true hfull] at D1
        have D1 := Lib.hid D1
        clear nb hdk hb1 hc1 hi4 in1
        unfold TD.cells at D1 F1a H1a
        go_wp2_with fail
        refine D1.out.mono ?_
        rintro e w2 ⟨rfl, hb2⟩
        have H2 := Lib.hid (H1a.out.below hb2)
        have F2 := Lib.hid ((f1.out.trans F1a.out).trans (Fw.of_below hb2 g A1))
        clear D1 hb2 H1a F1a
        go_wp2
        refine bodyPost_end (results_none rfl _ _ _) rfl ?_
        obtain ⟨j, hj⟩ : ∃ j, n = i + j := ⟨n - i, by omega⟩
        exact ⟨rfl, A1, c1, l1, dp1, H2.out, F2.out, r1.out.stop hfull (by rw [hj]; exact upTo_mono _ _ _ _)⟩
      · rw [decide_eq_false hfull] at D1
        have D1 := Lib.hid D1
        have hle : l1.length ≤ 200 := by omega
        clear nb hdk hb1 hc1 hi4 hfull
        have W0 := in1
        clear in1
        unfold TD.cells at D1 F1a H1a T1
        go_wp2_with fail
        refine D1.out.mono ?_
        rintro e w2 ⟨rfl, hb2⟩
        have H2 := Lib.hid (H1a.out.below hb2)
        have F12 : Fw wr w2 g A1 A1 := F1a.out.trans (Fw.of_below hb2 g A1)
        have F2 := Lib.hid (f1.out.trans F12)
        have J2 := Lib.hid (j1.out.fw F12)
        have T2 : Hid (TB w2 wr.heap.size dk) := TB.below T1.out hb2
        have SL := stb_len s
        have hs1 := HS.out
        clear D1 hb2 H1a F1a F12 T1 f1 j1 h1
        have hsl : (if 0 < i then stb s else []).length ≤ 1 := by
          split
          · omega
          · simp
        have STEP : Hid (∀ (w5 : World) (A5 : Option Addr) (c5 : Nat) (l5 : List Nat) (dp5 : Int), Wb w5 g A5 c5 l5 o dp5 → Res z0 (l1 ++ (if 0 < i then stb s else [])) o dp1 (F i) (K i) l5 dp5 → Res z0 l o dp (upTo (stb s) F (i + 1)) (dupTo K (i + 1)) l5 dp5) := by
          intro w5 A5 c5 l5 dp5 _ hr5
          exact r1.out.step hle hsl hr5
        clear hsl
        by_cases h0i : 0 < i
        · have qz : (0 : Int) < (i : Int) := by omega
          have e0 : (if 0 < i then stb s else []) = stb s := if_pos h0i
          rw [e0] at STEP
          have D2 := Lib.hid (writeString_any H2.out s (by omega))
          have hlt4 := H2.out.lt
          clear h0i e0
          go_wp2_with fail
          refine D2.out.mono ?_
          rintro e w3 ⟨rfl, A3, c3, hb3, hf3⟩
          have hz2 : (l1 ++ stb s).length ≤ 201 := by rw [List.length_append]; omega
          have hoz : o ≤ ((l1 ++ stb s).length : Nat) := by have := r1.out.le; rw [List.length_append]; omega
          obtain ⟨z, hz⟩ : ∃ z, l1 ++ stb s = z := ⟨_, rfl⟩
          rw [hz] at hb3 STEP hz2 hoz
          have H3 := Lib.hid hb3
          have F3 := Lib.hid (F2.out.trans hf3)
          have T3 := Lib.hid (T2.out.fw hf3 (by omega) R1a.out)
          have R3 := Lib.hid (row_new hf3 R1a.out T2.out.lt)
          have J3 := Lib.hid (J2.out.fw hf3)
          clear D2 hb3 hf3 F2 T2 R1a J2 H2 hz
          obtain ⟨⟨y0, y1, y2, y3, y4, y5, y6, y7⟩, -⟩ := T3.out.all
          have D4 := contains_any js jb mc m w3 dk.op HM.out J3.out.cells J3.out.lt hm2
          by_cases hbr : dk.op ∈ js
          · rw [decide_eq_true hbr] at D4
            have D4 := Lib.hid D4
            have e1 : F i = 40 :: (f i ++ [41]) ∧ K i = k i + 1 := by rw [FK.out.1, FK.out.2]; unfold inB inD; exact ⟨if_pos hbr, if_pos hbr⟩
            have E1 := Lib.hid e1
            clear hbr e1
            go_wp2_with fail
            refine D4.out.mono ?_
            rintro e w4 ⟨rfl, hb4⟩
            have H4 := H3.out.below hb4
            have F34 := Fw.of_below hb4 g A3
            have F4 := Lib.hid (F3.out.trans F34)
            have T4 := TB.below T3.out hb4
            have J4 := Lib.hid (J3.out.fw F34)
            have hlt5 := H4.lt
            have D5 := groupW_any P1.out w4 A3 c3 z o dp1 (IN.out.next F4.out) H4 h0 hoz hz2
            unfold TD.val at D5
            have D5 := Lib.hid D5
            obtain ⟨⟨x0, x1, x2, x3, x4, x5, x6, x7⟩, -⟩ := T4.all
            clear D4 hb4 H4 F34 T4 H3 F3 T3 R3 J3
            go_wp2_with fail
            refine D5.out.mono ?_
            rintro e w5 ⟨rfl, A5, c5, l5, dp5, hb5, hf5, hr5⟩
            have R5 := Lib.hid (STEP.out w5 A5 c5 l5 dp5 hb5 (by rw [E1.out.1, E1.out.2]; exact hr5.weaken HZ.out))
            have H5 := Lib.hid hb5
            have F5 := Lib.hid (F4.out.trans hf5)
            have J5 := Lib.hid (J4.out.fw hf5)
            clear D5 hb5 hf5 hr5 x0 x1 x2 x3 x4 x5 x6 x7
            go_wp2_with fail
            go_roundw
            case rel => exact ⟨i + 1, A5, c5, l5, dp5, by omega, by simp, H5, F5, R5, J5⟩
            case measure => simp [intOf]; omega
          · have HB2 := Lib.hid (P2.out hbr)
            rw [decide_eq_false hbr] at D4
            have D4 := Lib.hid D4
            have e1 : F i = f i ∧ K i = k i := by rw [FK.out.1, FK.out.2]; unfold inB inD; exact ⟨if_neg hbr, if_neg hbr⟩
            have E1 := Lib.hid e1
            clear hbr e1
            go_wp2_with fail
            refine D4.out.mono ?_
            rintro e w4 ⟨rfl, hb4⟩
            have H4 := H3.out.below hb4
            have F34 := Fw.of_below hb4 g A3
            have F4 := Lib.hid (F3.out.trans F34)
            have T4 := TB.below T3.out hb4
            have J4 := Lib.hid (J3.out.fw F34)
            have hlt5 := H4.lt
            have D5 := HB2.out w4 A3 c3 z o dp1 (IN.out.next F4.out) H4 h0 hoz (by omega)
            unfold TD.val at D5
            have D5 := Lib.hid D5
            obtain ⟨⟨x0, x1, x2, x3, x4, x5, x6, x7⟩, -⟩ := T4.all
            clear D4 hb4 H4 F34 T4 H3 F3 T3 R3 J3
            go_wp2_with fail
            refine D5.out.mono ?_
            rintro e w5 ⟨rfl, A5, c5, l5, dp5, hb5, hf5, hr5⟩
            have R5 := Lib.hid (STEP.out w5 A5 c5 l5 dp5 hb5 (by rw [E1.out.1, E1.out.2]; exact hr5))
            have H5 := Lib.hid hb5
            have F5 := Lib.hid (F4.out.trans hf5)
            have J5 := Lib.hid (J4.out.fw hf5)
            clear D5 hb5 hf5 hr5 x0 x1 x2 x3 x4 x5 x6 x7
            go_wp2_with fail
            go_roundw
            case rel => exact ⟨i + 1, A5, c5, l5, dp5, by omega, by simp, H5, F5, R5, J5⟩
            case measure => simp [intOf]; omega
        · have qz : ¬ (0 : Int) < (i : Int) := by omega
          have e0 : (if 0 < i then stb s else []) = [] := if_neg h0i
          rw [e0] at STEP
          have hz2 : (l1 ++ []).length ≤ 201 := by rw [List.length_append]; simp; omega
          have hoz : o ≤ ((l1 ++ ([] : List Nat)).length : Nat) := by have := r1.out.le; rw [List.length_append]; omega
          have hb3 := H2.out
          have ez : l1 ++ [] = l1 := List.append_nil l1
          obtain ⟨z, hz⟩ : ∃ z, l1 ++ ([] : List Nat) = z := ⟨_, rfl⟩
          rw [← ez, hz] at hb3
          rw [hz] at STEP hz2 hoz
          obtain ⟨A3, hA3⟩ : ∃ A3, A1 = A3 := ⟨_, rfl⟩
          obtain ⟨c3, hc3⟩ : ∃ c3, c1 = c3 := ⟨_, rfl⟩
          rw [hA3] at F2 R1a J2
          rw [hA3, hc3] at hb3
          have H3 := Lib.hid hb3
          have F3 := F2
          have T3 := T2
          have R3 := R1a
          have J3 := J2
          have hlt4 := hb3.lt
          clear hb3 H2 hz ez F2 T2 R1a J2 e0
          generalize w2 = w3 at *
          obtain ⟨⟨y0, y1, y2, y3, y4, y5, y6, y7⟩, -⟩ := T3.out.all
          have D4 := contains_any js jb mc m w3 dk.op HM.out J3.out.cells J3.out.lt hm2
          by_cases hbr : dk.op ∈ js
          · rw [decide_eq_true hbr] at D4
            have D4 := Lib.hid D4
            have e1 : F i = 40 :: (f i ++ [41]) ∧ K i = k i + 1 := by rw [FK.out.1, FK.out.2]; unfold inB inD; exact ⟨if_pos hbr, if_pos hbr⟩
            have E1 := Lib.hid e1
            clear hbr e1
            go_wp2_with fail
            refine D4.out.mono ?_
            rintro e w4 ⟨rfl, hb4⟩
            have H4 := H3.out.below hb4
            have F34 := Fw.of_below hb4 g A3
            have F4 := Lib.hid (F3.out.trans F34)
            have T4 := TB.below T3.out hb4
            have J4 := Lib.hid (J3.out.fw F34)
            have hlt5 := H4.lt
            have D5 := groupW_any P1.out w4 A3 c3 z o dp1 (IN.out.next F4.out) H4 h0 hoz hz2
            unfold TD.val at D5
            have D5 := Lib.hid D5
            obtain ⟨⟨x0, x1, x2, x3, x4, x5, x6, x7⟩, -⟩ := T4.all
            clear D4 hb4 H4 F34 T4 H3 F3 T3 R3 J3
            go_wp2_with fail
            refine D5.out.mono ?_
            rintro e w5 ⟨rfl, A5, c5, l5, dp5, hb5, hf5, hr5⟩
            have R5 := Lib.hid (STEP.out w5 A5 c5 l5 dp5 hb5 (by rw [E1.out.1, E1.out.2]; exact hr5.weaken HZ.out))
            have H5 := Lib.hid hb5
            have F5 := Lib.hid (F4.out.trans hf5)
            have J5 := Lib.hid (J4.out.fw hf5)
            clear D5 hb5 hf5 hr5 x0 x1 x2 x3 x4 x5 x6 x7
            go_wp2_with fail
            go_roundw
            case rel => exact ⟨i + 1, A5, c5, l5, dp5, by omega, by simp, H5, F5, R5, J5⟩
            case measure => simp [intOf]; omega
          · have HB2 := Lib.hid (P2.out hbr)
            rw [decide_eq_false hbr] at D4
            have D4 := Lib.hid D4
            have e1 : F i = f i ∧ K i = k i := by rw [FK.out.1, FK.out.2]; unfold inB inD; exact ⟨if_neg hbr, if_neg hbr⟩
            have E1 := Lib.hid e1
            clear hbr e1
            go_wp2_with fail
            refine D4.out.mono ?_
            rintro e w4 ⟨rfl, hb4⟩
            have H4 := H3.out.below hb4
            have F34 := Fw.of_below hb4 g A3
            have F4 := Lib.hid (F3.out.trans F34)
            have T4 := TB.below T3.out hb4
            have J4 := Lib.hid (J3.out.fw F34)
            have hlt5 := H4.lt
            have D5 := HB2.out w4 A3 c3 z o dp1 (IN.out.next F4.out) H4 h0 hoz (by omega)
            unfold TD.val at D5
            have D5 := Lib.hid D5
            obtain ⟨⟨x0, x1, x2, x3, x4, x5, x6, x7⟩, -⟩ := T4.all
            clear D4 hb4 H4 F34 T4 H3 F3 T3 R3 J3
            go_wp2_with fail
            refine D5.out.mono ?_
            rintro e w5 ⟨rfl, A5, c5, l5, dp5, hb5, hf5, hr5⟩
            have R5 := Lib.hid (STEP.out w5 A5 c5 l5 dp5 hb5 (by rw [E1.out.1, E1.out.2]; exact hr5))
            have H5 := Lib.hid hb5
            have F5 := Lib.hid (F4.out.trans hf5)
            have J5 := Lib.hid (J4.out.fw hf5)
            clear D5 hb5 hf5 hr5 x0 x1 x2 x3 x4 x5 x6 x7
            go_wp2_with fail
            go_roundw
            case rel => exact ⟨i + 1, A5, c5, l5, dp5, by omega, by simp, H5, F5, R5, J5⟩
            case measure => simp [intOf]; omega
    · have qi : ¬ (i : Int) < (n : Int) := by omega
      obtain rfl : i = n := by omega
      go_wp2
      refine bodyPost_end (results_none rfl _ _ _) rfl ?_
      exact ⟨rfl, A1, c1, l1, dp1, h1.out, f1.out, r1.out⟩
end Go.Proofs.YtegehcdjnnajcaaDoor
namespace Go.Proofs.YtegehcdjnnajcaaDoor
open Go.RowKit
theorem js_new {w : World} {g c : Nat} {A : Option Addr} {l : List Nat} {o dp : Int} (h : Wb w g A c l o dp) (js : List Int) (d : TD) : Js ((w.alloc (.cells d.cells 27)).alloc (.cells (js.map fun x => Value.int .i64 x).toArray 3)) g A (w.heap.size + 1) js := by
  have hlt := h.lt
  have e : (w.alloc (.cells d.cells 27)).heap.size = w.heap.size + 1 := by simp
  refine ⟨fun j v hj => ?_, by simp, by omega, ?_⟩
  · rw [cell_of_row _ (w.heap.size + 1) _ _ 3 (0, 0) (by rw [← e]; exact heap_alloc_new (w.alloc (.cells d.cells 27)) _)]
    simp [hj]
  · intro x
    have := h.own.olt x
    omega
theorem Puts.of {z : Nat} {w0 w : World} {g : Nat} {A : Option Addr} {l : List Nat} {o dp : Int} {f : List Nat} {k : Nat} {w1 : World} {e : Ending} {w' : World} (hf : Fw w w1 g A A) (h : Put z w1 g A l o dp f k e w') : Put z w g A l o dp f k e w' := by
  obtain ⟨he, A', c', l', dp', a, b, r⟩ := h
  exact ⟨he, A', c', l', dp', a, hf.trans b, r⟩
theorem Res.leaf {l f : List Nat} {o dp : Int} (hf : f.length ≤ 1282) : Res 18 l o dp f 0 (l ++ f) dp :=
  ⟨.inl ⟨rfl, (if_pos rfl : upD dp o 0 = dp).symm⟩, by simp, fun _ => by simp; omega, fun _ => by simp; omega⟩
theorem Put.of {w w1 : World} {g : Nat} {A : Option Addr} {l f : List Nat} {o dp : Int} {v : Value} {e : Ending} {w' : World} (hf : Fw w w1 g A A) (hl : f.length ≤ 1282) (h : Wrote w1 g A (l ++ f) o dp v e w') : ∃ A' c', e = .returned v ∧ Wb w' g A' c' (l ++ f) o dp ∧ Fw w w' g A A' ∧ Res 18 l o dp f 0 (l ++ f) dp := by
  obtain ⟨he, A', c', hb, hfw⟩ := h
  exact ⟨A', c', he, hb, hf.trans hfw, Res.leaf hl⟩
set_option maxRecDepth 100000 in
set_option maxHeartbeats 2000000 in
theorem term_dot {w0 : World} {g : Nat} (d : TD) (hop : d.op = 3) : Puts 18 w0 g d [46] 0 := by
  intro w A c l o dp hin h h0 ho hl
  obtain ⟨op, q, tlo, thi, tA, tn, tc⟩ := d
  obtain rfl : op = 3 := hop
  have hlt := h.lt
  have nb := below_new w (.cells (TD.cells ⟨3, q, tlo, thi, tA, tn, tc⟩) 27)
  have D1 := Lib.hid (writeByte_any (h.below nb) 46 (by omega) (by omega))
  have F1 := Lib.hid (Fw.of_below nb g A)
  clear h hin nb
  unfold TD.cells at D1 F1
  unfold TD.val
  go_enter Tryd.func24, Tryd.ntmps24
  go_wp2_with fail
  refine D1.out.mono ?_
  rintro e w2 h2
  obtain ⟨A', c', he, hb, hfw, hr⟩ := Put.of F1.out (by simp) h2
  subst he
  have HB := Lib.hid hb; have HF := Lib.hid hfw; have HR := Lib.hid hr
  clear h2 hb hfw hr D1 F1
  go_wp2
  refine bodyPost_end (results_none rfl _ _ _) rfl ?_
  exact ⟨rfl, A', c', _, dp, HB.out, HF.out, HR.out⟩
set_option maxRecDepth 100000 in
set_option maxHeartbeats 2000000 in
theorem term_begin {w0 : World} {g : Nat} (d : TD) (hop : d.op = 4) : Puts 18 w0 g d [94] 0 := by
  intro w A c l o dp hin h h0 ho hl
  obtain ⟨op, q, tlo, thi, tA, tn, tc⟩ := d
  obtain rfl : op = 4 := hop
  have hlt := h.lt
  have nb := below_new w (.cells (TD.cells ⟨4, q, tlo, thi, tA, tn, tc⟩) 27)
  have D1 := Lib.hid (writeByte_any (h.below nb) 94 (by omega) (by omega))
  have F1 := Lib.hid (Fw.of_below nb g A)
  clear h hin nb
  unfold TD.cells at D1 F1
  unfold TD.val
  go_enter Tryd.func24, Tryd.ntmps24
  go_wp2_with fail
  refine D1.out.mono ?_
  rintro e w2 h2
  obtain ⟨A', c', he, hb, hfw, hr⟩ := Put.of F1.out (by simp) h2
  subst he
  have HB := Lib.hid hb; have HF := Lib.hid hfw; have HR := Lib.hid hr
  clear h2 hb hfw hr D1 F1
  go_wp2
  refine bodyPost_end (results_none rfl _ _ _) rfl ?_
  exact ⟨rfl, A', c', _, dp, HB.out, HF.out, HR.out⟩
set_option maxRecDepth 100000 in
set_option maxHeartbeats 2000000 in
theorem term_end {w0 : World} {g : Nat} (d : TD) (hop : d.op = 5) : Puts 18 w0 g d [36] 0 := by
  intro w A c l o dp hin h h0 ho hl
  obtain ⟨op, q, tlo, thi, tA, tn, tc⟩ := d
  obtain rfl : op = 5 := hop
  have hlt := h.lt
  have nb := below_new w (.cells (TD.cells ⟨5, q, tlo, thi, tA, tn, tc⟩) 27)
  have D1 := Lib.hid (writeByte_any (h.below nb) 36 (by omega) (by omega))
  have F1 := Lib.hid (Fw.of_below nb g A)
  clear h hin nb
  unfold TD.cells at D1 F1
  unfold TD.val
  go_enter Tryd.func24, Tryd.ntmps24
  go_wp2_with fail
  refine D1.out.mono ?_
  rintro e w2 h2
  obtain ⟨A', c', he, hb, hfw, hr⟩ := Put.of F1.out (by simp) h2
  subst he
  have HB := Lib.hid hb; have HF := Lib.hid hfw; have HR := Lib.hid hr
  clear h2 hb hfw hr D1 F1
  go_wp2
  refine bodyPost_end (results_none rfl _ _ _) rfl ?_
  exact ⟨rfl, A', c', _, dp, HB.out, HF.out, HR.out⟩
set_option maxRecDepth 100000 in
set_option maxHeartbeats 2000000 in
theorem term_cat {w0 : World} {g : Nat} (q : Nat → BitVec 64) (tlo thi : Int) (tA : Option Addr) (n tc : Nat) {ds : List TD} {f : Nat → List Nat} {k : Nat → Nat} (hn : ds.length = n) (hn2 : n ≤ 9223372036854775807)
    (hr : 0 < n → ∃ b off, tA = some ⟨b, off, none⟩ ∧ b < w0.heap.size ∧ ∀ (i : Nat) (d : TD), ds[i]? = some d → ∀ j, j < 8 → w0.cell? ⟨b, off + i * 8 + j, none⟩ = d.cells[j]?)
    (hp : ∀ i d, ds[i]? = some d → Puts 0 w0 g d (f i) (k i)) (F : Nat → List Nat) (K : Nat → Nat) (hF : ∀ i d, ds[i]? = some d → F i = inB [1, 6, 7] d.op (f i) ∧ K i = inD [1, 6, 7] d.op (k i)) :
    Puts 0 w0 g ⟨6, q, tlo, thi, tA, n, tc⟩ (upTo (stb ⟨#[]⟩) F n) (dupTo K n) := by
  intro w A c l o dp hin h h0 ho hl
  have hlt := h.lt
  have nb := below_new w (.cells (TD.cells ⟨6, q, tlo, thi, tA, n, tc⟩) 27)
  have nb2 := nb.trans ((below_new (w.alloc (.cells (TD.cells ⟨6, q, tlo, thi, tA, n, tc⟩) 27)) (.cells (([1, 6, 7] : List Int).map fun x => Value.int .i64 x).toArray 3)).mono nb.size)
  have F1 := Fw.of_below nb2 g A
  have D1 := kids_any (z0 := 0) (by omega) (s := ⟨#[]⟩) (js := [1, 6, 7]) (m := 3) (mc := 3) (jb := w.heap.size + 1) (tc := tc) hn hn2 hr hp (fun i d hd _ => hp i d hd) (by decide) rfl (by omega) _ A c l o dp (hin.next F1) (h.below nb2) h0 ho (by omega) (js_new h [1, 6, 7] _) F K hF
  have D1 := Lib.hid D1
  have F1 := Lib.hid F1
  clear h hin nb nb2 hr hp hF hn hn2
  unfold TD.cells at D1 F1
  unfold TD.val
  go_enter Tryd.func24, Tryd.ntmps24
  go_wp2_with fail
  refine D1.out.mono ?_
  rintro e w2 h2
  obtain ⟨he, A', c', l', dp', hb, hfw, hr⟩ := Puts.of (w0 := w0) F1.out h2
  subst he
  have HB := Lib.hid hb; have HF := Lib.hid hfw; have HR := Lib.hid hr
  clear h2 hb hfw hr D1 F1
  go_wp2
  refine bodyPost_end (results_none rfl _ _ _) rfl ?_
  exact ⟨rfl, A', c', l', dp', HB.out, HF.out, HR.out⟩
set_option maxRecDepth 100000 in
set_option maxHeartbeats 2000000 in
theorem term_alt {w0 : World} {g : Nat} (q : Nat → BitVec 64) (tlo thi : Int) (tA : Option Addr) (n tc : Nat) {ds : List TD} {f : Nat → List Nat} {k : Nat → Nat} (hn : ds.length = n) (hn2 : n ≤ 9223372036854775807)
    (hr : 0 < n → ∃ b off, tA = some ⟨b, off, none⟩ ∧ b < w0.heap.size ∧ ∀ (i : Nat) (d : TD), ds[i]? = some d → ∀ j, j < 8 → w0.cell? ⟨b, off + i * 8 + j, none⟩ = d.cells[j]?)
    (hp : ∀ i d, ds[i]? = some d → Puts 0 w0 g d (f i) (k i)) (F : Nat → List Nat) (K : Nat → Nat) (hF : ∀ i d, ds[i]? = some d → F i = inB [7] d.op (f i) ∧ K i = inD [7] d.op (k i)) :
    Puts 0 w0 g ⟨7, q, tlo, thi, tA, n, tc⟩ (upTo (stb ⟨#[124]⟩) F n) (dupTo K n) := by
  intro w A c l o dp hin h h0 ho hl
  have hlt := h.lt
  have nb := below_new w (.cells (TD.cells ⟨7, q, tlo, thi, tA, n, tc⟩) 27)
  have nb2 := nb.trans ((below_new (w.alloc (.cells (TD.cells ⟨7, q, tlo, thi, tA, n, tc⟩) 27)) (.cells (([7] : List Int).map fun x => Value.int .i64 x).toArray 3)).mono nb.size)
  have F1 := Fw.of_below nb2 g A
  have D1 := kids_any (z0 := 0) (by omega) (s := ⟨#[124]⟩) (js := [7]) (m := 1) (mc := 1) (jb := w.heap.size + 1) (tc := tc) hn hn2 hr hp (fun i d hd _ => hp i d hd) (by decide) rfl (by omega) _ A c l o dp (hin.next F1) (h.below nb2) h0 ho (by omega) (js_new h [7] _) F K hF
  have D1 := Lib.hid D1
  have F1 := Lib.hid F1
  clear h hin nb nb2 hr hp hF hn hn2
  unfold TD.cells at D1 F1
  unfold TD.val
  go_enter Tryd.func24, Tryd.ntmps24
  go_wp2_with fail
  refine D1.out.mono ?_
  rintro e w2 h2
  obtain ⟨he, A', c', l', dp', hb, hfw, hr⟩ := Puts.of (w0 := w0) F1.out h2
  subst he
  have HB := Lib.hid hb; have HF := Lib.hid hfw; have HR := Lib.hid hr
  clear h2 hb hfw hr D1 F1
  go_wp2
  refine bodyPost_end (results_none rfl _ _ _) rfl ?_
  exact ⟨rfl, A', c', l', dp', HB.out, HF.out, HR.out⟩
set_option maxRecDepth 100000 in
set_option maxHeartbeats 2000000 in
theorem term_rep {w0 : World} {g : Nat} (q : Nat → BitVec 64) (tlo thi : Int) (tA : Option Addr) (n tc : Nat) {ds : List TD} {f : Nat → List Nat} {k : Nat → Nat} (hn : ds.length = n) (hn2 : n ≤ 9223372036854775807)
    (hr : 0 < n → ∃ b off, tA = some ⟨b, off, none⟩ ∧ b < w0.heap.size ∧ ∀ (i : Nat) (d : TD), ds[i]? = some d → ∀ j, j < 8 → w0.cell? ⟨b, off + i * 8 + j, none⟩ = d.cells[j]?)
    (hp : ∀ i d, ds[i]? = some d → Puts 0 w0 g d (f i) (k i)) (hp2 : ∀ i d, ds[i]? = some d → d.op ∉ ([1, 6, 7, 8] : List Int) → Puts 18 w0 g d (f i) (k i)) (F : Nat → List Nat) (K : Nat → Nat) (hF : ∀ i d, ds[i]? = some d → F i = inB [1, 6, 7, 8] d.op (f i) ∧ K i = inD [1, 6, 7, 8] d.op (k i))
    (qf : List Nat) (hq : qf.length ≤ 18) (Q : ∀ (W : World) (A : Option Addr) (c : Nat) (l : List Nat) (o dp : Int), In w0 W g A → Wb W g A c l o dp → l.length ≤ 200000 → Calls Tryd.prog 39 #[.pointer (some ⟨g, 0, none⟩), .int .i64 tlo, .int .i64 thi] W (Wrote W g A (l ++ qf) o dp (.tuple #[]))) :
    Puts 0 w0 g ⟨8, q, tlo, thi, tA, n, tc⟩ (upTo (stb ⟨#[]⟩) F n ++ qf) (dupTo K n) := by
  intro w A c l o dp hin h h0 ho hl
  have hlt := h.lt
  have nb := below_new w (.cells (TD.cells ⟨8, q, tlo, thi, tA, n, tc⟩) 27)
  have nb3 := below_new (w.alloc (.cells (TD.cells ⟨8, q, tlo, thi, tA, n, tc⟩) 27)) (.cells (([1, 6, 7, 8] : List Int).map fun x => Value.int .i64 x).toArray 3)
  have nb2 := nb.trans (nb3.mono nb.size)
  have F1 := Fw.of_below nb2 g A
  have D1 := kids_any (z0 := 18) (by omega) (s := ⟨#[]⟩) (js := [1, 6, 7, 8]) (m := 4) (mc := 4) (jb := w.heap.size + 1) (tc := tc) hn hn2 hr hp hp2 (by decide) rfl (by omega) _ A c l o dp (hin.next F1) (h.below nb2) h0 ho (by omega) (js_new h [1, 6, 7, 8] _) F K hF
  have T1 := Lib.hid (TB.below (TB.new w ⟨8, q, tlo, thi, tA, n, tc⟩) nb3)
  have RA : Hid (ow A ≠ some w.heap.size) := by
    intro e
    have := h.own.olt e
    omega
  have D1 := Lib.hid D1
  have F1 := Lib.hid F1
  have HQ := Lib.hid Q
  have HIN := Lib.hid hin
  clear h hin nb nb2 nb3 hr hp hp2 hF hn hn2 Q
  unfold TD.cells at D1 F1 T1
  unfold TD.val
  go_enter Tryd.func24, Tryd.ntmps24
  go_wp2_with fail
  refine D1.out.mono ?_
  rintro e w2 ⟨rfl, A2, c2, l2, dp2, hb, hfw, hr⟩
  have T2 := TB.fw T1.out hfw (by omega) RA.out
  obtain ⟨⟨x0, x1, x2, x3, x4, x5, x6, x7⟩, -⟩ := T2.all
  have hl2 : l2.length ≤ 200000 := by
    have e3 := hr.full
    have e4 := hr.part
    rcases Nat.lt_or_ge 201 l.length with h5 | h5
    · have := e3 h5; omega
    · have := e4 h5; omega
  have D2 := Lib.hid (HQ.out w2 A2 c2 l2 o dp2 (HIN.out.next (F1.out.trans hfw)) hb hl2)
  have F2 := Lib.hid (F1.out.trans hfw)
  have R2 := Lib.hid hr
  have hlt2 := hb.lt
  clear hb hfw hr D1 F1 T1 T2 RA
  go_wp2_with fail
  refine D2.out.mono ?_
  rintro e w3 ⟨rfl, A3, c3, hb3, hf3⟩
  have H3 := Lib.hid hb3
  have F3 := Lib.hid (F2.out.trans hf3)
  clear hb3 hf3 D2 F2 x0 x1 x2 x3 x4 x5 x6 x7
  go_wp2
  refine bodyPost_end (results_none rfl _ _ _) rfl ?_
  exact ⟨rfl, A3, c3, _, dp2, H3.out, F3.out, R2.out.tail hq⟩
end Go.Proofs.YtegehcdjnnajcaaDoor
namespace Go.Proofs.YtegehcdjnnajcaaDoor
open Go.RowKit
set_option maxRecDepth 100000 in
set_option maxHeartbeats 2000000 in
theorem term_empty {w0 : World} {g : Nat} (d : TD) (hop : d.op = 1) : Puts 18 w0 g d [] 0 := by
  intro w A c l o dp hin h h0 ho hl
  obtain ⟨op, q, tlo, thi, tA, tn, tc⟩ := d
  obtain rfl : op = 1 := hop
  have hlt := h.lt
  have nb := below_new w (.cells (TD.cells ⟨1, q, tlo, thi, tA, tn, tc⟩) 27)
  have H1 := Lib.hid (h.below nb)
  have F1 := Lib.hid (Fw.of_below nb g A)
  clear h hin nb
  unfold TD.cells at H1 F1
  unfold TD.val
  go_enter Tryd.func24, Tryd.ntmps24
  go_wp2
  refine bodyPost_end (results_none rfl _ _ _) rfl ?_
  exact ⟨rfl, A, c, l, dp, H1.out, F1.out, Res.start (Nat.le_refl _) l o dp⟩
set_option maxRecDepth 100000 in
set_option maxHeartbeats 2000000 in
theorem term_set {w0 : World} {g : Nat} (q : Nat → BitVec 64) (tlo thi : Int) (tA : Option Addr) (tn tc : Nat) (sf : List Nat) (hs : sf.length ≤ 1282)
    (S : ∀ (W : World) (A : Option Addr) (c : Nat) (l : List Nat) (o dp : Int), Wb W g A c l o dp → l.length ≤ 200000 → Calls Tryd.prog 36 #[.pointer (some ⟨g, 0, none⟩), .agg #[.int .u64 (uv (q 0)), .int .u64 (uv (q 1)), .int .u64 (uv (q 2)), .int .u64 (uv (q 3))]] W (Wrote W g A (l ++ sf) o dp (.tuple #[]))) :
    Puts 18 w0 g ⟨2, q, tlo, thi, tA, tn, tc⟩ sf 0 := by
  intro w A c l o dp hin h h0 ho hl
  have hlt := h.lt
  have nb := below_new w (.cells (TD.cells ⟨2, q, tlo, thi, tA, tn, tc⟩) 27)
  have D1 := Lib.hid (S _ A c l o dp (h.below nb) (by omega))
  have F1 := Lib.hid (Fw.of_below nb g A)
  clear h hin nb S
  unfold TD.cells at D1 F1
  unfold TD.val
  go_enter Tryd.func24, Tryd.ntmps24
  go_wp2_with fail
  refine D1.out.mono ?_
  rintro e w2 h2
  obtain ⟨A', c', he, hb, hfw, hr⟩ := Put.of F1.out hs h2
  subst he
  have HB := Lib.hid hb; have HF := Lib.hid hfw; have HR := Lib.hid hr
  clear h2 hb hfw hr D1 F1
  go_wp2
  refine bodyPost_end (results_none rfl _ _ _) rfl ?_
  exact ⟨rfl, A', c', _, dp, HB.out, HF.out, HR.out⟩
end Go.Proofs.YtegehcdjnnajcaaDoor
namespace Go.Proofs.YtegehcdjnnajcaaDoor
open Go.RowKit
theorem mem6 (k : Int) : k ∈ ([1, 6, 7] : List Int) ↔ needs 6 k = true := by unfold needs; simp; omega
theorem mem7 (k : Int) : k ∈ ([7] : List Int) ↔ needs 7 k = true := by unfold needs; simp
theorem mem8 (k : Int) : k ∈ ([1, 6, 7, 8] : List Int) ↔ needs 8 k = true := by unfold needs; simp; omega
theorem inB_kid {p : Int} {js : List Int} (h : ∀ k, k ∈ js ↔ needs p k = true) (k : Tm) : kidF p k = inB js (opOf k) (formT k) ∧ kidD p k = inD js (opOf k) (depT k) := by
  unfold kidF kidD inB inD
  by_cases hn : needs p (opOf k) = true
  · have := (h _).2 hn
    rw [if_pos hn, if_pos hn, if_pos this, if_pos this]; exact ⟨rfl, rfl⟩
  · have : opOf k ∉ js := fun x => hn ((h _).1 x)
    rw [if_neg hn, if_neg hn, if_neg this, if_neg this]; exact ⟨rfl, rfl⟩
theorem depL_snoc (p : Int) (k : Tm) : ∀ ks, depL p (ks ++ [k]) = max (depL p ks) (kidD p k)
  | [] => by rw [List.nil_append, depL_cons, depL, Nat.max_comm]
  | x :: r => by rw [List.cons_append, depL_cons, depL_cons, depL_snoc p k r, Nat.max_assoc]
def kd (ks : List Tm) (i : Nat) : Tm := ks.getD i (.mk 0 noB 0 0 [])
theorem kd_at {ks : List Tm} {i : Nat} (h : i < ks.length) : kd ks i = ks[i] := by unfold kd; rw [List.getD, List.getElem?_eq_getElem h]; rfl
theorem upTo_take {p : Int} {s : List Nat} (hs : s = if p = 7 then [124] else []) (ks : List Tm) : ∀ i, i ≤ ks.length → upTo s (fun i => kidF p (kd ks i)) i = formL p (ks.take i) true
  | 0, _ => by rw [List.take_zero, formL]; rfl
  | i + 1, h => by
    rw [upTo, upTo_take hs ks i (by omega), List.take_succ_eq_append_getElem (by omega), formL_snoc, List.length_take, kd_at (by omega), Nat.min_eq_left (by omega)]
    congr 2
    subst hs
    by_cases h7 : p = 7 <;> by_cases h0 : 0 < i <;> simp [h7, h0]
theorem dupTo_take (p : Int) (ks : List Tm) : ∀ i, i ≤ ks.length → dupTo (fun i => kidD p (kd ks i)) i = depL p (ks.take i)
  | 0, _ => by rw [List.take_zero, depL]; rfl
  | i + 1, h => by rw [dupTo, dupTo_take p ks i (by omega), List.take_succ_eq_append_getElem (by omega), depL_snoc, kd_at (by omega)]
theorem row_form {p : Int} {s : List Nat} (hs : s = if p = 7 then [124] else []) (ks : List Tm) : upTo s (fun i => kidF p (kd ks i)) ks.length = formL p ks true ∧ dupTo (fun i => kidD p (kd ks i)) ks.length = depL p ks :=
  ⟨by rw [upTo_take hs ks _ (Nat.le_refl _), List.take_length], by rw [dupTo_take p ks _ (Nat.le_refl _), List.take_length]⟩
/-- a set's form isn't long -/
def wgt (rs : List (Nat × Nat)) : Nat := (rs.map fun r => if r.1 < r.2 then 9 else 4).sum
theorem byte_le (b : Nat) : (byteF b).length ≤ 4 := by unfold byteF; split <;> simp
theorem run_le (r : Nat × Nat) : (runF r).length ≤ if r.1 < r.2 then 9 else 4 := by
  have h1 := byte_le r.1
  have h2 := byte_le r.2
  unfold runF
  split
  · rw [List.length_append, List.length_append]
    split <;> simp <;> omega
  · simp; omega
theorem runs_le : ∀ rs : List (Nat × Nat), (rs.flatMap runF).length ≤ wgt rs
  | [] => by simp
  | r :: rs => by
    have h1 := run_le r
    have h2 := runs_le rs
    have e : wgt (r :: rs) = (if r.1 < r.2 then 9 else 4) + wgt rs := by unfold wgt; rw [List.map_cons, List.sum_cons]
    rw [List.flatMap_cons, List.length_append, e]; omega
theorem wgt_app (a b : List (Nat × Nat)) : wgt (a ++ b) = wgt a + wgt b := by unfold wgt; rw [List.map_append, List.sum_append]
theorem wgt_one (r : Nat × Nat) : 4 ≤ wgt [r] ∧ wgt [r] ≤ 9 := by unfold wgt; simp; split <;> omega
theorem wgt_step (rs : List (Nat × Nat)) (b : Nat) : wgt (stepR rs b) ≤ wgt rs + 5 := by
  rcases List.eq_nil_or_concat rs with e | ⟨init, p, e⟩
  · subst e; rw [stepR_nil]
    have : wgt [(b, b)] = 4 := by unfold wgt; simp
    omega
  · rw [List.concat_eq_append] at e
    subst e; rw [stepR_snoc]
    have h1 := wgt_one p
    split
    · have h2 := wgt_one (p.1, b)
      rw [wgt_app, wgt_app]; omega
    · have : wgt [(b, b)] = 4 := by unfold wgt; simp
      rw [wgt_app, this]; omega
theorem runsK_le (l : List Nat) : ∀ k, wgt (runsK l k) ≤ 5 * k
  | 0 => by rw [runsK]; unfold wgt; simp
  | k + 1 => by have h1 := runsK_le l k; rw [runsK]; have := wgt_step (runsK l k) (bn l k); omega
theorem bl_le (f : Nat → Bool) : (blF f).length ≤ 256 := by unfold blF; exact Nat.le_trans (List.length_filter_le _ _) (by simp)
theorem set_le (f : Nat → Bool) : (setForm f).length ≤ 1282 := by
  unfold setForm
  split
  · simp
  split
  · have := byte_le (bn (blF f) 0); omega
  · have h1 := runs_le (runsF f)
    have h2 := runsK_le (blF f) (blF f).length
    have h3 := bl_le f
    have e : wgt (runsF f) = wgt (runsK (blF f) (blF f).length) := rfl
    rw [List.length_append, List.length_cons, List.length_singleton]; omega
theorem num_le (n : Nat) : (numF n).length ≤ 3 := by
  unfold numF
  split
  · simp
  split <;> simp
theorem quant_le (lo hi : Int) : (quantOf lo hi).length ≤ 18 := by
  have h1 := num_le lo.toNat
  have h2 := num_le hi.toNat
  unfold quantOf
  repeat' split
  all_goals simp
  all_goals omega
def SetW (g : Nat) : Prop := ∀ (q : Nat → BitVec 64) (f : Nat → Bool), IsK f q → ∀ (W : World) (A : Option Addr) (c : Nat) (l : List Nat) (o dp : Int), Wb W g A c l o dp → l.length ≤ 200000 → Calls Tryd.prog 36 #[.pointer (some ⟨g, 0, none⟩), .agg #[.int .u64 (uv (q 0)), .int .u64 (uv (q 1)), .int .u64 (uv (q 2)), .int .u64 (uv (q 3))]] W (Wrote W g A (l ++ setForm f) o dp (.tuple #[]))
def QuantW (w0 : World) (g : Nat) : Prop := ∀ (lo hi : Int), bndOk lo hi → ∀ (W : World) (A : Option Addr) (c : Nat) (l : List Nat) (o dp : Int), In w0 W g A → Wb W g A c l o dp → l.length ≤ 200000 → Calls Tryd.prog 39 #[.pointer (some ⟨g, 0, none⟩), .int .i64 lo, .int .i64 hi] W (Wrote W g A (l ++ quantOf lo hi) o dp (.tuple #[]))
theorem sb_none : stb ⟨#[]⟩ = [] := rfl
theorem sb_bar : stb ⟨#[124]⟩ = [124] := rfl
theorem puts_all {g : Nat} (w0 : World) (HS : SetW g) (HQ : QuantW w0 g) : ∀ t : Tm, rightT t = true → ∀ d : TD, TR w0 t d → d.op = opOf t ∧ Puts 0 w0 g d (formT t) (depT t) ∧ (opOf t < 6 → Puts 18 w0 g d (formT t) (depT t)) := by
  intro t
  induction t using Tm.ind with
  | h op f lo hi ks ih =>
  intro hr d ht
  have R := right_is hr
  obtain ⟨q, A, c, ds, rfl, hq, hl, hrow, hk⟩ := ht.look
  refine ⟨rfl, ?_⟩
  have o1 := R.op1
  have o8 := R.op8
  have leafy : ∀ {x : List Nat}, formT (.mk op f lo hi ks) = x → depT (.mk op f lo hi ks) = 0 → Puts 18 w0 g ⟨op, q, lo, hi, A, ks.length, c⟩ x 0 → Puts 0 w0 g ⟨op, q, lo, hi, A, ks.length, c⟩ (formT (.mk op f lo hi ks)) (depT (.mk op f lo hi ks)) ∧ (opOf (.mk op f lo hi ks) < 6 → Puts 18 w0 g ⟨op, q, lo, hi, A, ks.length, c⟩ (formT (.mk op f lo hi ks)) (depT (.mk op f lo hi ks))) := by
    intro x hf hd hp
    rw [hf, hd]
    exact ⟨hp.weaken (by omega), fun _ => hp⟩
  have KID : ∀ i d, ds[i]? = some d → d.op = opOf (kd ks i) ∧ Puts 0 w0 g d (formT (kd ks i)) (depT (kd ks i)) ∧ (opOf (kd ks i) < 6 → Puts 18 w0 g d (formT (kd ks i)) (depT (kd ks i))) ∧ rightT (kd ks i) = true := by
    intro i d hd
    have hi : i < ks.length := by
      rw [← hl]
      rcases Nat.lt_or_ge i ds.length with h | h
      · exact h
      · rw [List.getElem?_eq_none h] at hd; cases hd
    have hm : ks[i] ∈ ks := List.getElem_mem hi
    rw [kd_at hi]
    obtain ⟨a, b, c⟩ := ih _ hm (R.kids _ hm) d (hk i _ d (List.getElem?_eq_getElem hi) hd)
    exact ⟨a, b, c, R.kids _ hm⟩
  by_cases h1 : op = 1
  · exact leafy (by rw [formT]; simp [h1]) (by rw [depT]; simp [h1]) (term_empty _ h1)
  by_cases h2 : op = 2
  · subst h2
    exact leafy (by rw [formT]; simp) (by rw [depT]; simp) (term_set q lo hi A ks.length c (setForm f) (set_le f) (HS q f hq))
  by_cases h3 : op = 3
  · exact leafy (by rw [formT]; simp [h3]) (by rw [depT]; simp [h3]) (term_dot _ h3)
  by_cases h4 : op = 4
  · exact leafy (by rw [formT]; simp [h4]) (by rw [depT]; simp [h4]) (term_begin _ h4)
  by_cases h5 : op = 5
  · exact leafy (by rw [formT]; simp [h5]) (by rw [depT]; simp [h5]) (term_end _ h5)
  have hn2 : ks.length ≤ 9223372036854775807 := by
    cases ht with
    | mk _ _ _ _ _ _ _ _ _ _ _ hn _ _ => exact hn
  have hrw : 0 < ks.length → ∃ b off, A = some ⟨b, off, none⟩ ∧ b < w0.heap.size ∧ ∀ (i : Nat) (d : TD), ds[i]? = some d → ∀ j, j < 8 → w0.cell? ⟨b, off + i * 8 + j, none⟩ = d.cells[j]? := fun h => hrow (by omega)
  by_cases h6 : op = 6
  · subst h6
    refine ⟨?_, fun h => absurd h (by show ¬ (6 : Int) < 6; omega)⟩
    have e1 : formT (.mk 6 f lo hi ks) = formL 6 ks true := by rw [formT]; simp
    have e2 : depT (.mk 6 f lo hi ks) = depL 6 ks := by rw [depT]; simp
    obtain ⟨r1, r2⟩ := row_form (p := 6) (s := stb ⟨#[]⟩) rfl ks
    rw [e1, e2, ← r1, ← r2]
    exact term_cat q lo hi A ks.length c hl hn2 hrw (f := fun i => formT (kd ks i)) (k := fun i => depT (kd ks i)) (fun i d hd => (KID i d hd).2.1) _ _ (fun i d hd => by
      rw [(KID i d hd).1]; exact inB_kid mem6 _)
  by_cases h7 : op = 7
  · subst h7
    refine ⟨?_, fun h => absurd h (by show ¬ (7 : Int) < 6; omega)⟩
    have e1 : formT (.mk 7 f lo hi ks) = formL 7 ks true := by rw [formT]; simp
    have e2 : depT (.mk 7 f lo hi ks) = depL 7 ks := by rw [depT]; simp
    obtain ⟨r1, r2⟩ := row_form (p := 7) (s := stb ⟨#[124]⟩) rfl ks
    rw [e1, e2, ← r1, ← r2]
    exact term_alt q lo hi A ks.length c hl hn2 hrw (f := fun i => formT (kd ks i)) (k := fun i => depT (kd ks i)) (fun i d hd => (KID i d hd).2.1) _ _ (fun i d hd => by
      rw [(KID i d hd).1]; exact inB_kid mem7 _)
  obtain rfl : op = 8 := by omega
  refine ⟨?_, fun h => absurd h (by show ¬ (8 : Int) < 6; omega)⟩
  have e1 : formT (.mk 8 f lo hi ks) = formL 8 ks true ++ quantOf lo hi := by rw [formT]; simp
  have e2 : depT (.mk 8 f lo hi ks) = depL 8 ks := by rw [depT]; simp
  obtain ⟨r1, r2⟩ := row_form (p := 8) (s := stb ⟨#[]⟩) rfl ks
  rw [e1, e2, ← r1, ← r2]
  exact term_rep q lo hi A ks.length c hl hn2 hrw (f := fun i => formT (kd ks i)) (k := fun i => depT (kd ks i)) (fun i d hd => (KID i d hd).2.1) (fun i d hd hno => (KID i d hd).2.2.1 (by
      rw [(KID i d hd).1] at hno
      have hr := (KID i d hd).2.2.2
      revert hno hr
      generalize kd ks i = k
      obtain ⟨ok, fk, lok, hik, kks⟩ := k
      intro hno hr
      have := right_is hr
      have a := this.op1
      have b := this.op8
      have e : opOf (.mk ok fk lok hik kks) = ok := rfl
      rw [e] at hno ⊢
      simp only [List.mem_cons, List.not_mem_nil, or_false, not_or] at hno
      omega)) _ _ (fun i d hd => by
      rw [(KID i d hd).1]; exact inB_kid mem8 _) (quantOf lo hi) (quant_le lo hi) (HQ lo hi (R.bnd rfl))
end Go.Proofs.YtegehcdjnnajcaaDoor
