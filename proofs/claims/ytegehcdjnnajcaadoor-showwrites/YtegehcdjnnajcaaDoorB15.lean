/- A set is written. -/
import Derived.Test.YtegehcdjnnajcaaDoorA2
import Derived.Test.YtegehcdjnnajcaaDoorA3
namespace Go.Proofs.YtegehcdjnnajcaaDoor
open Go.RowKit
theorem byl_bl {q : Nat → BitVec 64} {f : Nat → Bool} (h : IsK f q) : byl q 256 = blF f := by
  unfold byl blF; exact List.filter_congr fun i hi => h i (List.mem_range.1 hi)
theorem cnt_bl {q : Nat → BitVec 64} {f : Nat → Bool} (h : IsK f q) : cntK q = (blF f).length := by
  unfold cntK; rw [List.countP_eq_length_filter, ← byl_bl h]; rfl
theorem blF_nil (f : Nat → Bool) (h : eqK f noB = true) : (blF f).length = 0 := by
  rw [eqK_iff] at h
  unfold blF
  rw [List.length_eq_zero_iff, List.filter_eq_nil_iff]
  intro i hi
  rw [h i (List.mem_range.1 hi)]; simp [noB]
theorem blF_some (f : Nat → Bool) (h : eqK f noB = false) : 0 < (blF f).length := by
  rcases Nat.eq_zero_or_pos (blF f).length with h0 | h0
  · rw [List.length_eq_zero_iff] at h0
    have : eqK f noB = true := (eqK_iff f noB).2 fun i hi => by
      have := (bl_mem f i hi).2
      cases hf : f i with
      | false => rfl
      | true =>
        obtain ⟨j, hj, _⟩ := this hf
        rw [h0] at hj; simp at hj
    rw [this] at h; cases h
  · exact h0
theorem byteC_eq (b : Nat) : byteC b = byteF b := rfl
theorem runC_eq (r : Nat × Nat) : runC r = runF r := rfl
/-- a row of runs lies there, out of the writer's way -/
structure Rs (w : World) (g : Nat) (A : Option Addr) (rb : Nat) (rs : List (Nat × Nat)) : Prop where
  cells : ∀ j, j < rs.length → w.cell? ⟨rb, j * 2, none⟩ = some (.int .u8 ((pr rs j).1 : Nat)) ∧ w.cell? ⟨rb, j * 2 + 1, none⟩ = some (.int .u8 ((pr rs j).2 : Nat))
  lt : rb < w.heap.size
  ne : rb ≠ g
  row : ow A ≠ some rb
theorem Rs.fw {w w' : World} {g rb : Nat} {A A' : Option Addr} {rs : List (Nat × Nat)} (h : Rs w g A rb rs) (hf : Fw w w' g A A') : Rs w' g A' rb rs :=
  ⟨fun j hj => ⟨(World.cell?_of_block (a := ⟨rb, j * 2, none⟩) (hf.block rb h.lt h.ne h.row)).trans (h.cells j hj).1, (World.cell?_of_block (a := ⟨rb, j * 2 + 1, none⟩) (hf.block rb h.lt h.ne h.row)).trans (h.cells j hj).2⟩, Nat.lt_of_lt_of_le h.lt hf.size, h.ne, row_new hf h.row h.lt⟩
def GivesN (w : World) (n : Nat) (rs : List (Nat × Nat)) (e : Ending) (w' : World) : Prop :=
  ∃ rb c, e = .returned (.slice (some ⟨rb, 0, none⟩) n c) ∧ w.heap.size ≤ rb ∧ rb < w'.heap.size ∧ (∀ j, j < rs.length → w'.cell? ⟨rb, j * 2, none⟩ = some (.int .u8 ((pr rs j).1 : Nat)) ∧ w'.cell? ⟨rb, j * 2 + 1, none⟩ = some (.int .u8 ((pr rs j).2 : Nat))) ∧ Below w.heap.size w w'
theorem runsN {q : Nat → BitVec 64} {f : Nat → Bool} (hq : IsK f q) {n : Nat} (hn : (runsF f).length = n) (h0 : 0 < n) (w : World) : Calls Tryd.prog 47 #[.agg (cw q)] w (GivesN w n (runsF f)) := by
  have h := runs_any2 q w
  rw [byl_bl hq] at h
  refine h.mono ?_
  rintro e w' ⟨A, c, rfl, hp, hg, hb⟩
  have hl : (runsK (blF f) (blF f).length).length = n := hn
  obtain ⟨rb, rfl, hlt, hc⟩ := hp (by omega)
  obtain ⟨rb2, e2, hge⟩ := hg (by omega)
  have e3 : rb = rb2 := by injection e2 with e2; injection e2
  rw [hl]
  exact ⟨rb, c, rfl, by omega, hlt, hc, hb⟩
theorem Rs.of {w w1 w' : World} {g c rb : Nat} {A : Option Addr} {l : List Nat} {o dp : Int} {rs : List (Nat × Nat)} (h : Wb w g A c l o dp) (hs : w.heap.size ≤ rb) (hlt : rb < w'.heap.size) (hc : ∀ j, j < rs.length → w'.cell? ⟨rb, j * 2, none⟩ = some (.int .u8 ((pr rs j).1 : Nat)) ∧ w'.cell? ⟨rb, j * 2 + 1, none⟩ = some (.int .u8 ((pr rs j).2 : Nat))) : Rs w' g A rb rs :=
  ⟨hc, hlt, by have := h.lt; omega, fun e => by have := h.own.olt e; omega⟩
set_option maxRecDepth 100000 in
set_option maxHeartbeats 4000000 in
theorem set_any {w : World} {g c : Nat} {A : Option Addr} {l : List Nat} {o dp : Int} (q : Nat → BitVec 64) (f : Nat → Bool) (hq : IsK f q) (h : Wb w g A c l o dp) (hl : l.length ≤ 200000) :
    Calls Tryd.prog 36 #[.pointer (some ⟨g, 0, none⟩), .agg #[.int .u64 (uv (q 0)), .int .u64 (uv (q 1)), .int .u64 (uv (q 2)), .int .u64 (uv (q 3))]] w (Wrote w g A (l ++ setForm f) o dp (.tuple #[])) := by
  have hlt := h.lt
  have nb := below_new w (.cells (cw q) 24)
  have hE : (Op.equalIn 10000 24 (.agg #[.int .u64 (uv (q 0)), .int .u64 (uv (q 1)), .int .u64 (uv (q 2)), .int .u64 (uv (q 3))]) (.agg #[.int .u64 0, .int .u64 0, .int .u64 0, .int .u64 0])).run Tryd.prog (w.alloc (.cells (cw q) 24)) = .ok (eqK f noB) (w.alloc (.cells (cw q) 24)) := eqk_is hq isK_zero (w.alloc (.cells (cw q) 24))
  have C1 := Lib.hid (CB.new w q)
  have ha := (C1.out.cell 0 (by omega)); have hb := (C1.out.cell 1 (by omega)); have hc := (C1.out.cell 2 (by omega)); have hd := (C1.out.cell 3 (by omega))
  have H1 := Lib.hid (h.below nb)
  have F1 := Lib.hid (Fw.of_below nb g A)
  have RA := Lib.hid fun (k : Nat) (e : ow A = some k) => h.own.olt e
  have HL := Lib.hid hl
  cases hz : eqK f noB with
  | true =>
    have E : setForm f = stb ⟨#[91, 98, 45, 97, 93]⟩ := by unfold setForm; rw [if_pos (blF_nil f hz)]; rfl
    rw [E]
    have D1 := Lib.hid (writeString_any H1.out ⟨#[91, 98, 45, 97, 93]⟩ (by show l.length + 5 ≤ _; omega))
    rw [hz] at hE
    unfold cw at hE ha hb hc hd D1 F1
    clear h nb H1 hq hl hz E C1 RA
    go_enter Tryd.func36, Tryd.ntmps36
    go_wp2_with fail
    refine D1.out.mono ?_
    rintro e w2 ⟨rfl, A2, c2, hb2, hf2⟩
    have H2 := Lib.hid hb2
    have F2 := Lib.hid (F1.out.trans hf2)
    clear D1 hb2 hf2
    go_wp2
    refine bodyPost_end (results_none rfl _ _ _) rfl ?_
    exact ⟨rfl, A2, c2, H2.out, F2.out⟩
  | false =>
    have h0 := blF_some f hz
    obtain ⟨r1, r2, -⟩ := runsF_ok f h0
    obtain ⟨n, hn⟩ : ∃ n, (runsF f).length = n := ⟨_, rfl⟩
    have hn0 : 0 < n := by rw [← hn]; exact List.length_pos_iff.2 r1
    have D1 := Lib.hid (runsN hq hn hn0 (w.alloc (.cells (cw q) 24)))
    have D2 : Hid (∀ W, Calls Tryd.prog 48 #[.agg (cw q)] W fun e w' => e = .returned (.int .i64 ((blF f).length : Nat)) ∧ Below W.heap.size W w') := fun W => by
      have := lenK_any q W
      rw [cnt_bl hq] at this; exact this
    have R2 := Lib.hid r2
    have HN := Lib.hid hn
    rw [hz] at hE
    have hsz : (w.alloc (.cells (cw q) 24)).heap.size = w.heap.size + 1 := by simp
    have HZ := Lib.hid hsz
    have NL : n ≤ 256 := by
      have := len_runsK (blF f) (blF f).length
      have h2 := List.length_filter_le f (List.range 256)
      rw [List.length_range] at h2
      have e : (runsF f).length ≤ (blF f).length := this
      have h3 : (blF f).length ≤ 256 := h2
      omega
    clear hz hq hsz r1 r2 hn
    by_cases h1 : (blF f).length = 1
    · have E : setForm f = byteF (bn (blF f) 0) := by unfold setForm; rw [if_neg (by omega), if_pos h1]
      have E2 : runsF f = [(bn (blF f) 0, bn (blF f) 0)] := by unfold runsF; rw [h1]; rfl
      have hb256 := bl_lt f 0
      obtain ⟨b, hb⟩ : ∃ b, bn (blF f) 0 = b := ⟨_, rfl⟩
      rw [E, hb]
      rw [hb] at E2 hb256
      have HN2 := HN.out
      rw [E2] at D1 R2 HN2
      obtain rfl : n = 1 := by simpa using HN2.symm
      rw [h1] at D2
      clear HN HN2 E E2 h0 h1 hb hn0
      unfold cw at hE ha hb hc hd D1 D2 F1 H1 C1 HZ
      clear h nb hl
      go_enter Tryd.func36, Tryd.ntmps36
      go_wp2_with fail
      refine D1.out.mono ?_
      rintro e w2 ⟨rb, c2, rfl, hrb, hrl, hrc, hb2⟩
      have x0 := (hrc 0 (by simp)).1
      have B2 := Lib.hid hb2
      have H2 := Lib.hid (H1.out.below hb2)
      have F2 := Lib.hid (F1.out.trans (Fw.of_below hb2 g A))
      have C2 : Hid (CB w2 w.heap.size q) := by
        have := C1.out.below (B := w.heap.size + 1) (by have := hb2; rw [HZ.out] at this; exact this) (by omega)
        exact this
      have y0 := C2.out.cell 0 (by omega); have y1 := C2.out.cell 1 (by omega); have y2 := C2.out.cell 2 (by omega); have y3 := C2.out.cell 3 (by omega)
      rw [HZ.out] at hrb
      have lt2 := C2.out.lt
      have x0 : w2.cell? ⟨rb, 0, none⟩ = some (.int .u8 (b : Nat)) := x0
      clear D1 hrc hb2 ha hb hc hd hE H1 F1 C1
      go_wp2_with fail
      refine (D2.out _).mono ?_
      rintro e w3 ⟨rfl, hb3⟩
      have H3 := Lib.hid (H2.out.below hb3)
      have F3 := Lib.hid (F2.out.trans (Fw.of_below hb3 g A))
      have x0 : w3.cell? ⟨rb, 0, none⟩ = some (.int .u8 (b : Nat)) := (hb3.cell (p := ⟨rb, 0, none⟩) hrl).trans x0
      have hrl3 : rb < w3.heap.size := Nat.lt_of_lt_of_le hrl hb3.size
      have D3 := Lib.hid (char_any H3.out b hb256 (by have := HL.out; omega))
      clear D2 hb3 H2 F2 C2 y0 y1 y2 y3 B2
      go_wp2_with fail
      refine D3.out.mono ?_
      rintro e w4 ⟨rfl, A4, c4, hb4, hf4⟩
      have H4 := Lib.hid hb4
      have F4 := Lib.hid (F3.out.trans hf4)
      clear D3 hb4 hf4 F3 H3 x0
      go_wp2
      refine bodyPost_end (results_none rfl _ _ _) rfl ?_
      exact ⟨rfl, A4, c4, H4.out, F4.out⟩
    · have E : setForm f = 91 :: (runsF f).flatMap runF ++ [93] := by unfold setForm; rw [if_neg (by omega), if_neg h1]
      rw [E]
      have hne : (((blF f).length : Nat) : Int) ≠ 1 := by omega
      have hne' : ((((blF f).length : Nat) : Int) == 1) = false := by rw [beq_eq_false_iff_ne]; exact hne
      generalize (blF f).length = m at D2 hne'
      generalize runsF f = rs at *
      clear E h0 h1 hne
      unfold cw at hE ha hb hc hd D1 D2 F1 H1 C1 HZ
      clear h nb hl
      go_enter Tryd.func36, Tryd.ntmps36
      go_wp2_with fail
      refine D1.out.mono ?_
      rintro e w2 ⟨rb, c2, rfl, hrb, hrl, hrc, hb2⟩
      have H2 := Lib.hid (H1.out.below hb2)
      have F2 := Lib.hid (F1.out.trans (Fw.of_below hb2 g A))
      have C2 : Hid (CB w2 w.heap.size q) := by
        have := C1.out.below (B := w.heap.size + 1) (by have := hb2; rw [HZ.out] at this; exact this) (by omega)
        exact this
      have y0 := C2.out.cell 0 (by omega); have y1 := C2.out.cell 1 (by omega); have y2 := C2.out.cell 2 (by omega); have y3 := C2.out.cell 3 (by omega)
      have hrb2 := Nat.le_trans (Nat.le_succ _) (Nat.le_trans (Nat.le_of_eq HZ.out.symm) hrb)
      have RS2 : Hid (Rs w2 g A rb rs) := ⟨hrc, hrl, by omega, fun e => by have := RA.out rb e; omega⟩
      have lt2 := C2.out.lt
      clear D1 hrc hrl hrb hrb2 hb2 ha hb hc hd hE H1 F1 C1
      go_wp2_with fail
      refine (D2.out _).mono ?_
      rintro e w3 ⟨rfl, hb3⟩
      have H3 := Lib.hid (H2.out.below hb3)
      have F23 := Fw.of_below hb3 g A
      have F3 := Lib.hid (F2.out.trans F23)
      have RS3 := Lib.hid (RS2.out.fw F23)
      have D3 := Lib.hid (writeByte_any H3.out 91 (by omega) (by have := HL.out; omega))
      have lt3 := H3.out.lt
      clear D2 hb3 H2 F2 F23 C2 y0 y1 y2 y3 RS2 lt2
      go_wp2_with fail
      refine D3.out.mono ?_
      rintro e w4 ⟨rfl, A4, c4, hb4, hf4⟩
      have H4 := Lib.hid hb4
      have F4 := Lib.hid (F3.out.trans hf4)
      have RS4 := Lib.hid (RS3.out.fw hf4)
      clear D3 hb4 hf4 F3 H3 RS3 lt3
      go_wp2_with fail
      go_loopw [31] (fun v wr => ∃ (i : Nat) (A1 : Option Addr) (c1 : Nat), i ≤ n ∧ v = .int .i64 (i : Nat) ∧ Hid (Wb wr g A1 c1 (l ++ (91 :: (rs.take i).flatMap runF)) o dp) ∧ Hid (Fw w wr g A A1) ∧ Hid (Rs wr g A1 rb rs)) (fun v _ => n - (intOf v).toNat)
      case atStart => exact ⟨0, A4, c4, Nat.zero_le _, rfl, H4, F4, RS4⟩
      case round =>
        obtain ⟨i, A1, c1, hi1, rfl, h1, f1, r1⟩ := hrel
        have LL : Hid ((l ++ (91 :: (rs.take i).flatMap runF)).length ≤ 210000) := by
          show (l ++ (91 :: (rs.take i).flatMap runF)).length ≤ 210000
          have a1 : ∀ xs : List (Nat × Nat), (xs.flatMap runF).length ≤ 9 * xs.length := by
            intro xs
            induction xs with
            | nil => simp
            | cons x xs ih => rw [List.flatMap_cons, List.length_append, List.length_cons]; have := len_runC x; rw [runC_eq] at this; omega
          have a2 := a1 (rs.take i)
          rw [List.length_take] at a2
          have a3 := HL.out
          rw [List.length_append, List.length_cons]
          have a4 : min i rs.length ≤ i := Nat.min_le_left _ _
          omega
        by_cases hlt2 : i < n
        · have qi : (i : Int) < (n : Int) := by omega
          have hi4 : i < rs.length := by have := HN.out; omega
          obtain ⟨x0, x1⟩ := r1.out.cells i hi4
          have hm : pr rs i = rs[i] := by unfold pr; rw [List.getD, List.getElem?_eq_getElem hi4]; rfl
          have hr := R2.out _ (List.getElem_mem hi4)
          have hT : Hid ((rs.take (i + 1)).flatMap runF = (rs.take i).flatMap runF ++ runF rs[i]) := by
            show _ = _
            rw [List.take_succ_eq_append_getElem hi4, List.flatMap_append]; simp
          rw [hm] at x0 x1
          obtain ⟨⟨a, b⟩, hab⟩ : ∃ r, rs[i] = r := ⟨_, rfl⟩
          rw [hab] at x0 x1 hr hT
          have nb := below_new wr (.cells #[.int .u8 (a : Nat), .int .u8 (b : Nat)] 86)
          have H5 := h1.out.below nb
          have D4 := Lib.hid (run_any H5 a b hr.1 hr.2 (by have := LL.out; omega))
          have F5 := Lib.hid (f1.out.trans (Fw.of_below nb g A1))
          have RS5 := Lib.hid (r1.out.fw (Fw.of_below nb g A1))
          have hrl := r1.out.lt
          have q6 : IntKind.i64.wrap ((i : Int) + 1) = ((i + 1 : Nat) : Int) := by rw [IntWalk.i64_in _ (by omega)]; omega
          clear hi4 hm hr hab nb H5 h1 f1 r1
          go_wp2_with fail
          refine D4.out.mono ?_
          rintro e w6 ⟨rfl, A6, c6, hb6, hf6⟩
          have H6 : Hid (Wb w6 g A6 c6 (l ++ (91 :: (rs.take (i + 1)).flatMap runF)) o dp) := by
            show Wb w6 g A6 c6 (l ++ (91 :: (rs.take (i + 1)).flatMap runF)) o dp
            rw [hT.out]
            have e : l ++ (91 :: ((rs.take i).flatMap runF ++ runF (a, b))) = l ++ (91 :: (rs.take i).flatMap runF) ++ runC (a, b) := by rw [runC_eq]; simp
            rw [e]; exact hb6
          have F6 := Lib.hid (F5.out.trans hf6)
          have RS6 := Lib.hid (RS5.out.fw hf6)
          clear D4 hb6 hf6 F5 RS5 x0 x1
          go_wp2_with fail
          go_roundw
          case rel => exact ⟨i + 1, A6, c6, by omega, by simp, H6, F6, RS6⟩
          case measure => simp [intOf]; omega
        · have qi : ¬ (i : Int) < (n : Int) := by omega
          obtain rfl : i = n := by omega
          have e1 : rs.take i = rs := by rw [← HN.out, List.take_length]
          rw [e1] at h1 LL
          have D5 := Lib.hid (writeByte_any h1.out 93 (by omega) (by have := LL.out; omega))
          have lt1 := h1.out.lt
          clear e1 h1 r1
          go_wp2_with fail
          refine D5.out.mono ?_
          rintro e w7 ⟨rfl, A7, c7, hb7, hf7⟩
          have H7 := Lib.hid hb7
          have F7 := Lib.hid (f1.out.trans hf7)
          clear D5 hb7 hf7 f1
          go_wp2
          refine bodyPost_end (results_none rfl _ _ _) rfl ?_
          refine ⟨rfl, A7, c7, ?_, F7.out⟩
          have e : l ++ (91 :: rs.flatMap runF ++ [93]) = l ++ 91 :: rs.flatMap runF ++ [93] := by simp
          first | (rw [e]; exact H7.out) | (have h7 := H7.out; rw [← e] at h7; exact h7)
end Go.Proofs.YtegehcdjnnajcaaDoor
