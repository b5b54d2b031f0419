/- The document's Simple: leaves, rows, repetitions. -/
import Derived.Test.YtkljagffccommaaY1

/- The document's Simple: leaves, and what its rows carry. -/
namespace Go.Proofs.Ytkljagffccommaa
open Go.RowKit

theorem leaf44_any (op : Int) (w : World) : Calls Try.prog 44 #[.int .i64 op] w (fun e w' => e = .returned (TD.val ⟨op, fun _ => 0#64, 0, 0, none, 0, 0⟩) ∧ Below w.heap.size w w') := by
  unfold TD.val
  go_enter Try.func44, Try.ntmps44
  go_wp2
  refine bodyPost_ret (v := TD.val ⟨op, fun _ => 0#64, 0, 0, none, 0, 0⟩) ?_ rfl ?_
  · simp [results, Try.results44, go_sem, TD.val, uv]
  · exact ⟨rfl, below_new _ _⟩

/-- several terms of S laid behind a row of terms of S -/
theorem Kx.Kf.pushs {w w' : World} {S : Nat → Prop} {N : Nat} {A A' : Option Addr} {c c' : Nat} {ds ds' es : List TD} {ts us : List Tm} (h : Kx.Kf w S A c ds ts) (hS : ∀ k, S k → k < N) (hN : N ≤ w.heap.size) (hA : ∀ k, ow A = some k → N ≤ k)
    (hl : es.length = us.length) (hv : ∀ (i : Nat) (t : Tm) (d : TD), us[i]? = some t → es[i]? = some d → TV w S t d) (hd : ds' = ds ++ es) (ho : OwnT w' A' c' ds') (hg : w.grownBy w' (ow A)) (hr : Nr w A A') : Kx.Kf w' S A' c' ds' (ts ++ us) ∧ ∀ k, ow A' = some k → N ≤ k := by
  subst hd
  have hA' : ∀ k, ow A' = some k → N ≤ k := fun k e => by
    rcases hr with e2 | ⟨j, e2, hj⟩
    · exact hA k (by rw [← e2]; exact e)
    · rw [e2] at e; injection e with e; omega
  have mv : ∀ {t' : Tm} {d' : TD}, TV w S t' d' → TV w' (fun k => S k ∧ some k ≠ ow A') t' d' := fun hx => hx.to fun k hk =>
    ⟨⟨hk, fun e => by have h1 := hA' k e.symm; have h2 := hS k hk; omega⟩, fun hlt => hg.block k hlt (fun e => by have h1 := hA k e.symm; have h2 := hS k hk; omega)⟩
  refine ⟨⟨ho, by simp [h.len, hl], fun i t' d' h1 h2 => ?_⟩, hA'⟩
  rcases Nat.lt_or_ge i ts.length with hi | hi
  · rw [List.getElem?_append_left hi] at h1
    rw [List.getElem?_append_left (by rw [h.len]; exact hi)] at h2
    exact mv ((h.el i t' d' h1 h2).to fun k hk => ⟨hk.1, fun _ => rfl⟩)
  · rw [List.getElem?_append_right hi] at h1
    rw [List.getElem?_append_right (by rw [h.len]; exact hi), h.len] at h2
    exact mv (hv _ t' d' h1 h2)

/-- what a loop carries that lays terms of S into a row of the call's own; the result's block stands first -/
structure Oz (w wr : World) (S : Nat → Prop) (K : Option Addr) (ck : Nat) (ds : List TD) (ts : List Tm) : Prop where
  bel : Below w.heap.size w wr
  res : TB wr w.heap.size zT
  kf : Kx.Kf wr S K ck ds ts
  blk : ∀ k, ow K = some k → w.heap.size + 1 ≤ k
section
variable {w wr W : World} {S : Nat → Prop} {K K' : Option Addr} {ck ck' : Nat} {ds ds' es : List TD} {ts us : List Tm} {t : Tm} {d : TD}
theorem Oz.below (o : Oz w wr S K ck ds ts) (hb : Below wr.heap.size wr W) : Oz w W S K ck ds ts :=
  ⟨o.bel.trans (hb.mono o.bel.size), o.res.below hb, o.kf.below hb, o.blk⟩
theorem Oz.pushs (o : Oz w wr S K ck ds ts) (hS : ∀ k, S k → k < w.heap.size) (hl : es.length = us.length) (hv : ∀ (i : Nat) (t : Tm) (d : TD), us[i]? = some t → es[i]? = some d → TV wr S t d) (hd : ds' = ds ++ es) (ho : OwnT W K' ck' ds') (hg : wr.grownBy W (ow K)) (hr : Nr wr K K') : Oz w W S K' ck' ds' (ts ++ us) := by
  have hs := o.res.lt
  obtain ⟨h1, -⟩ := o.kf.pushs hS o.bel.size (fun k e => by have := o.blk k e; omega) hl hv hd ho hg hr
  refine ⟨⟨hg.os.trans o.bel.os, hg.tape.trans o.bel.tape, hg.output.trans o.bel.output, Nat.le_trans o.bel.size hg.size, fun k hk => (hg.block k (Nat.lt_of_lt_of_le hk o.bel.size) (fun e => by have := o.blk k e.symm; omega)).trans (o.bel.block k hk)⟩,
    (hg.block _ hs (fun e => by have := o.blk _ e.symm; omega)).trans o.res, h1, fun k e => ?_⟩
  rcases hr with e2 | ⟨j, e2, hj⟩
  · exact o.blk k (by rw [← e2]; exact e)
  · rw [e2] at e; injection e with e; omega
theorem Oz.push (o : Oz w wr S K ck ds ts) (hS : ∀ k, S k → k < w.heap.size) (hv : TV wr S t d) (hd : ds' = ds ++ [d]) (ho : OwnT W K' ck' ds') (hg : wr.grownBy W (ow K)) (hr : Nr wr K K') : Oz w W S K' ck' ds' (ts ++ [t]) :=
  o.pushs hS rfl (fun i t' d' h1 h2 => by
    match i, h1, h2 with
    | 0, h1, h2 => simp at h1 h2; subst h1; subst h2; exact hv
    | i + 1, h1, _ => simp at h1) hd ho hg hr
/-- the row is made a term, the result stored -/
theorem Oz.node (o : Oz w wr S K ck ds ts) (hS : ∀ k, S k → k < w.heap.size) (op : Int) (h5 : ts.length ≤ 1048576) (a0 a1 a2 a3 a4 a5 a6 a7 : Value) :
    TV (set8 wr w.heap.size a0 a1 a2 a3 a4 a5 a6 a7) (fun k => S k ∨ (w.heap.size ≤ k ∧ k < (set8 wr w.heap.size a0 a1 a2 a3 a4 a5 a6 a7).heap.size)) (.mk op noF 0 0 ts) ⟨op, fun _ => 0#64, 0, 0, K, ds.length, ck⟩ := by
  have V : TV wr (fun k => S k ∨ some k = ow K) (.mk op noF 0 0 ts) ⟨op, fun _ => 0#64, 0, 0, K, ds.length, ck⟩ := by
    rw [o.kf.len]
    refine .mk op noF 0 0 _ _ K ck _ isk_no o.kf.len h5 (fun i t d h1 h2 => (o.kf.el i t d h1 h2).to fun k hk => ⟨.inl hk.1, fun _ => rfl⟩) fun h0 => ?_
    obtain ⟨b, e, hr⟩ := o.kf.own.row (by rw [o.kf.len]; exact h0)
    exact ⟨b, e, .inr (by rw [e]; rfl), hr⟩
  refine V.to fun k hk => ?_
  rcases hk with hk | hk
  · have := hS k hk
    exact ⟨.inl hk, fun _ => set8_heap _ _ _ _ _ _ _ _ _ _ _ (by omega)⟩
  · have h1 := o.blk k hk.symm
    have h2 := o.kf.own.lt (k := k) hk.symm
    exact ⟨.inr ⟨by omega, lt_set8 h2⟩, fun _ => set8_heap _ _ _ _ _ _ _ _ _ _ _ (by omega)⟩
end
/-- a term made of terms of S, after a call -/
def Wn (S : Nat → Prop) (w : World) (t : Tm) (e : Ending) (w' : World) : Prop := ∃ d : TD, e = .returned d.val ∧ TV w' (fun k => S k ∨ (w.heap.size ≤ k ∧ k < w'.heap.size)) t d ∧ Below w.heap.size w w'
theorem tv_lf (w : World) (S : Nat → Prop) (op : Int) : TV w S (lfT op) ⟨op, fun _ => 0#64, 0, 0, none, 0, 0⟩ := .mk op noF 0 0 [] _ none 0 [] isk_no rfl (by simp) (fun i t d h => by simp at h) (fun h => by simp at h)
theorem len_szL : ∀ l : List Tm, l.length ≤ szL l
  | [] => Nat.le_refl _
  | .mk op f lo hi ks :: r => by rw [List.length_cons, szL, szT]; have := len_szL r; omega
theorem szL_tk : ∀ (l : List Tm) (i : Nat), szL (l.take i) ≤ szL l
  | [], i => by simp [szL]
  | a :: r, 0 => by simp [szL]
  | a :: r, i + 1 => by rw [List.take_succ_cons, szL, szL]; have := szL_tk r i; omega
theorem flat_take (g : Tm → List Tm) (h : ∀ s, szL (g s) ≤ szT s) (l : List Tm) (i : Nat) : ((l.take i).flatMap g).length ≤ szL l := by
  have h1 := len_szL ((l.take i).flatMap g)
  have h2 := sz_flats g h (l.take i)
  have h3 := szL_tk l i
  omega
end Go.Proofs.Ytkljagffccommaa

/- The document's row of terms that follow one another. -/
namespace Go.Proofs.Ytkljagffccommaa
open Go.RowKit

theorem any_take_succ {p : Tm → Bool} {ts : List Tm} {i : Nat} (hi : i < ts.length) (h : (ts.take i).any p = false) (h1 : p ts[i] = false) : (ts.take (i + 1)).any p = false := by
  rw [← List.take_append_getElem hi, List.any_append, h]
  simp [h1]

set_option maxRecDepth 100000 in
set_option maxHeartbeats 8000000 in
theorem cat45_any (S : Nat → Prop) (A : Option Addr) (c : Nat) (ds : List TD) (ts : List Tm) (w : World) (hS : ∀ k, S k → k < w.heap.size) (hlen : ds.length = ts.length) (hrow : RowAt w A ds)
    (hel : ∀ (i : Nat) (t : Tm) (d : TD), ts[i]? = some t → ds[i]? = some d → TV w S t d) (h2 : ∀ t ∈ ts, opOf t = 6 → 2 ≤ (kidsOf t).length) (hz : szL ts ≤ 500) :
    Calls Try.prog 45 #[.slice A ds.length c] w (Wn S w (sCat ts)) := by
  have hlz := len_szL ts
  obtain ⟨n, hnn⟩ : ∃ n, ds.length = n := ⟨_, rfl⟩
  rw [hnn]
  have O0 : Hid (Oz w ((w.alloc (.cells #[.int .i64 0, .int .u64 0, .int .u64 0, .int .u64 0, .int .u64 0, .int .i64 0, .int .i64 0, .slice none 0 0] 29)).alloc (.cells #[] 29)) S (some ⟨w.heap.size + 1, 0, none⟩) 0 [] []) := by
    have t0 := TB.new w zT
    have l0 := World.ownsRow_lit (w.alloc (.cells #[.int .i64 0, .int .u64 0, .int .u64 0, .int .u64 0, .int .u64 0, .int .i64 0, .int .i64 0, .slice none 0 0] 29)) (base := 0) (e := 29) (size := 8) #[] 0 (Nat.zero_le _) (Nat.zero_le _) rfl
    rw [World.size_alloc] at l0
    exact ⟨nb2 w _ _, t0.alloc _, ⟨l0, rfl, fun i t d h => by simp at h⟩, fun k e => by have e2 : some (w.heap.size + 1) = some k := e; injection e2 with e2; omega⟩
  have HS := Lib.hid hS; have HL := Lib.hid hlen; have HR := Lib.hid hrow; have HE := Lib.hid hel; have H2 := Lib.hid h2; have HZ := Lib.hid hz; have HN := Lib.hid hnn; have HLZ := Lib.hid hlz
  clear hS hlen hrow hel h2 hz hnn hlz
  go_enter Try.func45, Try.ntmps45
  go_wp2_with fail
  go_loopw [3, 4] (fun o v wr => ∃ (i : Nat) (K : Option Addr) (ck : Nat) (ds' : List TD), i ≤ n ∧ o = .slice K ds'.length ck ∧ v = .int .i64 (i : Nat) ∧ Hid (Oz w wr S K ck ds' ((ts.take i).flatMap flat6) ∧ (ts.take i).any isNo = false)) (fun _ v _ => n - (intOf v).toNat)
  case atStart => exact ⟨0, _, 0, [], Nat.zero_le _, rfl, rfl, ⟨O0.out, rfl⟩⟩
  case round =>
    obtain ⟨i, K, ck, ds', hi1, rfl, rfl, F⟩ := hrel
    clear O0
    by_cases hlt : i < n
    · have qi : (i : Int) < (n : Int) := by omega
      have q6 : IntKind.i64.wrap ((i : Int) + 1) = ((i + 1 : Nat) : Int) := by have h1 := HN.out; have h2 := HL.out; have h3 := HLZ.out; have h4 := HZ.out; rw [IntWalk.i64_in _ (by omega)]; omega
      have hi3 : i < ds.length := by have := HN.out; omega
      have hi2 : i < ts.length := by have := HN.out; have := HL.out; omega
      obtain ⟨kb, off, rfl, hb1, hc1⟩ := HR.out (by omega)
      obtain ⟨a0, a1, a2, a3, a4, a5, a6, a7⟩ := kid_cells F.out.1.bel hb1 hc1 (List.getElem?_eq_getElem hi3)
      have V : Hid (TV wr S ts[i] ds[i]) := (HE.out i _ _ (List.getElem?_eq_getElem hi2) (List.getElem?_eq_getElem hi3)).keeps F.out.1.bel
      have hm := List.getElem_mem hi2
      have K2 := Lib.hid (H2.out _ hm)
      have tk : (ts.take (i + 1)).flatMap flat6 = (ts.take i).flatMap flat6 ++ flat6 ts[i] := by
        rw [← List.take_append_getElem hi2, List.flatMap_append]; simp
      have TK := Lib.hid tk
      have NO := Lib.hid (any_take_succ (p := isNo) hi2 F.out.2)
      have YES : Hid (isNo ts[i] = true → ts.any isNo = true) := fun h => List.any_eq_true.2 ⟨_, hm, h⟩
      have hdl : Hid (ds'.length ≤ 500) := by
        have h1 := F.out.1.kf.len
        have h2 := flat_take flat6 sz_flat6 ts i
        have h3 := HZ.out
        show ds'.length ≤ 500
        omega
      have hkl : Hid ((flat6 ts[i]).length ≤ 500) := by
        have h1 := sz_flat6 ts[i]; have h2 := len_szL (flat6 ts[i]); have h3 := szL_mem ts _ hm; have h4 := HZ.out
        show (flat6 ts[i]).length ≤ 500
        omega
      have OP := Lib.hid (op_tv V.out)
      have nb := below_new wr (.cells (ds[i]).cells 29)
      have F2 := Lib.hid (F.out.1.below nb)
      have V2 := Lib.hid (V.out.keeps nb)
      have T2 := Lib.hid (TB.new wr ds[i])
      have res := F.out.1.res
      have rlt : w.heap.size < wr.heap.size := res.lt
      clear tk hc1 hb1 nb hm
      generalize ts[i] = kt at *
      generalize ds[i] = dt at *
      clear hi3 hi2
      by_cases h9 : dt.op = 9
      · have e9 : (dt.op == 9) = true := by rw [h9]; rfl
        have D := Lib.hid (leaf44_any 9 wr)
        have R : Hid (sCat ts = lfT 9) := by show _ = _; unfold sCat; rw [if_pos (YES.out (by rw [isNo_iff, ← OP.out, h9]))]
        have RES := Lib.hid res; have BEL := Lib.hid F.out.1.bel
        clear h9 NO YES TK K2 V F2 V2 T2 F OP res
        unfold TD.val at D
        go_wp2_with fail
        refine D.out.mono ?_
        rintro e w6 ⟨rfl, hb6⟩
        have T6 := Lib.hid (RES.out.below hb6)
        have B6 := Lib.hid (BEL.out.trans (hb6.mono BEL.out.size))
        clear D hb6 RES BEL a0 a1 a2 a3 a4 a5 a6 a7
        obtain ⟨⟨r0, r1, r2, r3, r4, r5, r6, r7⟩, g0, g1, g2, g3, g4, g5, g6, g7⟩ := T6.out.all
        go_wp2
        refine bodyPost_ret (v := TD.val ⟨9, fun _ => 0#64, 0, 0, none, 0, 0⟩) ?_ rfl ?_
        · simp [results, Try.results45, go_sem, TD.val, uv, r0, r1, r2, r3, r4, r5, r6, r7]
        · rw [R.out]
          exact ⟨_, rfl, tv_lf _ _ 9, bel8 B6.out (Nat.le_refl w.heap.size) (.int .i64 9) (.int .u64 0) (.int .u64 0) (.int .u64 0) (.int .u64 0) (.int .i64 0) (.int .i64 0) (.slice none 0 0)⟩
      · have e9 : (dt.op == 9) = false := by rw [beq_eq_false_iff_ne]; exact h9
        have N1 : Hid ((ts.take (i + 1)).any isNo = false) := NO.out (by rw [← Bool.not_eq_true, isNo_iff, ← OP.out]; exact h9)
        clear h9 NO YES res
        by_cases h6 : dt.op = 6
        · have e6 : (dt.op == 6) = true := by rw [h6]; rfl
          have hko : opOf kt = 6 := OP.out.symm.trans h6
          obtain ⟨b, es, hA, hn, hl5, hrow5, hels⟩ := tv_row V.out (K2.out hko)
          have eS : flat6 kt = kidsOf kt := by unfold flat6; rw [if_pos hko]
          have ES := Lib.hid eS; have HR5 := Lib.hid hrow5; have HV5 := Lib.hid hels; have HL5 := Lib.hid hl5
          have hlx : ds'.length + es.length ≤ 1048576 := by have h1 := hdl.out; have h2 := hkl.out; rw [eS] at h2; omega
          obtain ⟨o5, q5, l5, h5', A5, n5, c5⟩ := dt
          simp only at hA hn a7 a0 e6 e9
          subst hA; subst hn
          clear hko eS hrow5 hels hl5 h6 F2 V2 T2 V
          go_wp2_with (at_builtin; refine appTs rfl (.tmp 25) (.tmp 30) rfl K ck ds' F.out.1.kf.own _ c5 es (fun h => by cases h) HR5.out hlx rfl rfl ?_)
          intro A6 c6 ds6 w6 hd6 ho6 hg6 hr6
          have R : Hid (Oz w w6 S A6 c6 ds6 ((ts.take (i + 1)).flatMap flat6) ∧ (ts.take (i + 1)).any isNo = false) := by
            refine ⟨?_, N1.out⟩
            rw [TK.out, ES.out]
            exact F.out.1.pushs HS.out HL5.out HV5.out hd6.out ho6 hg6 hr6
          clear hg6 hr6 ho6 hd6 F a0 a1 a2 a3 a4 a5 a6 a7
          go_wp2_with fail
          go_roundw
          case rel => exact ⟨i + 1, A6, c6, ds6, by omega, rfl, by simp, R⟩
          case measure => simp [intOf]; omega
        · have e6 : (dt.op == 6) = false := by rw [beq_eq_false_iff_ne]; exact h6
          by_cases h1 : dt.op = 1
          · have e1 : (dt.op != 1) = false := by rw [bne_eq_false_iff_eq]; exact h1
            have R : Hid (Oz w wr S K ck ds' ((ts.take (i + 1)).flatMap flat6) ∧ (ts.take (i + 1)).any isNo = false) := by
              refine ⟨?_, N1.out⟩
              have : flat6 kt = [] := by unfold flat6; rw [if_neg (by rw [← OP.out]; exact h6), if_pos (by rw [← OP.out]; exact h1)]
              rw [TK.out, this, List.append_nil]
              exact F.out.1
            clear h6 h1 F2 V2 T2 V F
            go_wp2_with fail
            go_roundw
            case rel => exact ⟨i + 1, K, ck, ds', by omega, rfl, by simp, R⟩
            case measure => simp [intOf]; omega
          · have e1 : (dt.op != 1) = true := by rw [bne_iff_ne]; exact h1
            have ES : Hid (flat6 kt = [kt]) := by show _ = _; unfold flat6; rw [if_neg (by rw [← OP.out]; exact h6), if_neg (by rw [← OP.out]; exact h1)]
            have hdl2 : ds'.length ≤ 1048576 := by have := hdl.out; omega
            clear h6 h1 V F
            unfold TD.cells at *
            go_wp2_with (at_builtin; refine appT rfl (.tmp 38) (.tmp 43) rfl K ck ds' F2.out.kf.own _ 1 dt T2.out hdl2 rfl rfl ?_)
            intro A6 c6 ds6 w6 hd6 ho6 hg6 hr6
            have R : Hid (Oz w w6 S A6 c6 ds6 ((ts.take (i + 1)).flatMap flat6) ∧ (ts.take (i + 1)).any isNo = false) := by
              refine ⟨?_, N1.out⟩
              rw [TK.out, ES.out]
              exact F2.out.push HS.out V2.out hd6.out ho6 hg6 hr6
            clear hg6 hr6 ho6 hd6 F2 V2 T2 a0 a1 a2 a3 a4 a5 a6 a7
            go_wp2_with fail
            go_roundw
            case rel => exact ⟨i + 1, A6, c6, ds6, by omega, rfl, by simp, R⟩
            case measure => simp [intOf]; omega
    · have qi : ¬ (i : Int) < (n : Int) := by omega
      have hall : ts.take i = ts := List.take_of_length_le (by have := HN.out; have := HL.out; omega)
      have O1 : Hid (Oz w wr S K ck ds' (ts.flatMap flat6)) := by have := F.out.1; rw [hall] at this; exact this
      have RS : Hid (sCat ts = around 6 (ts.flatMap flat6) 1) := by
        have := F.out.2
        rw [hall] at this
        show _ = _
        unfold sCat; rw [if_neg (by rw [this]; simp)]
      have hfl : (ts.flatMap flat6).length ≤ 500 := by
        have h1 := len_szL (ts.flatMap flat6); have h2 := sz_flats flat6 sz_flat6 ts; have := HZ.out; omega
      have HFL := Lib.hid hfl
      clear F hall hfl
      generalize ts.flatMap flat6 = l at *
      have hl := O1.out.kf.len
      have BEL := Lib.hid O1.out.bel; have RES := Lib.hid O1.out.res
      match l, ds', hl with
      | [], [], _ =>
        have D := Lib.hid (leaf44_any 1 wr)
        have rlt : w.heap.size < wr.heap.size := RES.out.lt
        clear hl O1
        unfold TD.val at D
        go_wp2_with fail
        refine D.out.mono ?_
        rintro e w6 ⟨rfl, hb6⟩
        have T6 := Lib.hid (RES.out.below hb6)
        have B6 := Lib.hid (BEL.out.trans (hb6.mono BEL.out.size))
        clear D hb6 RES BEL
        obtain ⟨⟨r0, r1, r2, r3, r4, r5, r6, r7⟩, g0, g1, g2, g3, g4, g5, g6, g7⟩ := T6.out.all
        go_wp2
        refine bodyPost_ret (v := TD.val ⟨1, fun _ => 0#64, 0, 0, none, 0, 0⟩) ?_ rfl ?_
        · simp [results, Try.results45, go_sem, TD.val, uv, r0, r1, r2, r3, r4, r5, r6, r7]
        · rw [RS.out]
          exact ⟨_, rfl, tv_lf _ _ 1, bel8 B6.out (Nat.le_refl w.heap.size) (.int .i64 1) (.int .u64 0) (.int .u64 0) (.int .u64 0) (.int .u64 0) (.int .i64 0) (.int .i64 0) (.slice none 0 0)⟩
      | [t], [d], _ =>
        obtain ⟨b, e, hrow⟩ := O1.out.kf.own.row (by simp)
        subst e
        have hel := O1.out.kf.el 0 t d rfl rfl
        have V : Hid (∀ W : World, (∀ k, k < w.heap.size → W.heap[k]? = wr.heap[k]?) → TV W (fun k => S k ∨ (w.heap.size ≤ k ∧ k < W.heap.size)) t d) := fun W hW => hel.to fun k hk => ⟨.inl hk.1, fun _ => hW k (HS.out k hk.1)⟩
        have cc : ∀ j, j < 8 → wr.cell? ⟨b, j, none⟩ = d.cells[j]? := fun j hj => by have := hrow.cell (i := 0) (d := d) rfl j hj; simpa using this
        have a0 : wr.cell? ⟨b, 0, none⟩ = some (.int .i64 d.op) := cc 0 (by omega)
        have a1 : wr.cell? ⟨b, 1, none⟩ = some (.int .u64 (uv (d.q 0))) := cc 1 (by omega)
        have a2 : wr.cell? ⟨b, 2, none⟩ = some (.int .u64 (uv (d.q 1))) := cc 2 (by omega)
        have a3 : wr.cell? ⟨b, 3, none⟩ = some (.int .u64 (uv (d.q 2))) := cc 3 (by omega)
        have a4 : wr.cell? ⟨b, 4, none⟩ = some (.int .u64 (uv (d.q 3))) := cc 4 (by omega)
        have a5 : wr.cell? ⟨b, 5, none⟩ = some (.int .i64 d.lo) := cc 5 (by omega)
        have a6 : wr.cell? ⟨b, 6, none⟩ = some (.int .i64 d.hi) := cc 6 (by omega)
        have a7 : wr.cell? ⟨b, 7, none⟩ = some (.slice d.A d.n d.c) := cc 7 (by omega)
        obtain ⟨⟨r0, r1, r2, r3, r4, r5, r6, r7⟩, g0, g1, g2, g3, g4, g5, g6, g7⟩ := RES.out.all
        have hbn : ¬ b = w.heap.size := fun e => by have := O1.out.blk b rfl; omega
        have hbn2 : ¬ w.heap.size = b := fun e => hbn e.symm
        clear hl O1 hrow hel cc
        simp only [List.length_singleton, List.length_cons, List.length_nil, Nat.zero_add] at *
        go_wp2
        refine bodyPost_ret (v := TD.val d) ?_ rfl ?_
        · simp [results, Try.results45, go_sem, TD.val, r0, r1, r2, r3, r4, r5, r6, r7]
        · rw [RS.out]
          exact ⟨d, rfl, V.out _ (fun k hk => set8_heap _ _ _ _ _ _ _ _ _ _ _ (by omega)), bel8 BEL.out (Nat.le_refl w.heap.size) (.int .i64 d.op) (.int .u64 (uv (d.q 0))) (.int .u64 (uv (d.q 1))) (.int .u64 (uv (d.q 2))) (.int .u64 (uv (d.q 3))) (.int .i64 d.lo) (.int .i64 d.hi) (.slice d.A d.n d.c)⟩
      | t0 :: t1 :: r, d0 :: d1 :: rs, _ =>
        obtain ⟨m, hm⟩ : ∃ m, (d0 :: d1 :: rs).length = m := ⟨_, rfl⟩
        have hm2 : 2 ≤ m := by simp at hm; omega
        have V := Lib.hid (O1.out.node HS.out 6 (by have := HFL.out; omega) (.int .i64 6) (.int .u64 0) (.int .u64 0) (.int .u64 0) (.int .u64 0) (.int .i64 0) (.int .i64 0) (.slice K (d0 :: d1 :: rs).length ck))
        rw [hm] at V ⊢
        have q1 : ((m : Int) == 0) = false := by rw [beq_eq_false_iff_ne]; omega
        have q2 : ((m : Int) == 1) = false := by rw [beq_eq_false_iff_ne]; omega
        obtain ⟨⟨r0, r1, r2, r3, r4, r5, r6, r7⟩, g0, g1, g2, g3, g4, g5, g6, g7⟩ := RES.out.all
        clear hl O1 hm
        go_wp2
        refine bodyPost_ret (v := TD.val ⟨6, fun _ => 0#64, 0, 0, K, m, ck⟩) ?_ rfl ?_
        · simp [results, Try.results45, go_sem, TD.val, uv, r0, r1, r2, r3, r4, r5, r6, r7]
        · rw [RS.out]
          exact ⟨_, rfl, V.out, bel8 BEL.out (Nat.le_refl w.heap.size) (.int .i64 6) (.int .u64 0) (.int .u64 0) (.int .u64 0) (.int .u64 0) (.int .i64 0) (.int .i64 0) (.slice K m ck)⟩
end Go.Proofs.Ytkljagffccommaa

/- The document's repetition. -/
namespace Go.Proofs.Ytkljagffccommaa
open Go.RowKit

def loOf : Tm → Int
  | .mk _ _ lo _ _ => lo
def hiOf : Tm → Int
  | .mk _ _ _ hi _ => hi
theorem isStar_eq (k : Tm) : isStar k = decide (opOf k = 8 ∧ loOf k = 0 ∧ hiOf k = -1) := by obtain ⟨op, f, lo, hi, ks⟩ := k; rfl
/-- a row of one term, and the term over it -/
theorem one_row (wq : World) (S : Nat → Prop) (N : Nat) (f : Nat → Bool) (lo hi : Int) (k : Tm) (e : TD) (hf : IsK f (fun _ => 0#64)) (hv : TV (wq.alloc (.cells e.cells 29)) (fun j => S j ∨ (N ≤ j ∧ j < (wq.alloc (.cells e.cells 29)).heap.size)) k e) (hN : N ≤ wq.heap.size) :
    TV (wq.alloc (.cells e.cells 29)) (fun j => S j ∨ (N ≤ j ∧ j < (wq.alloc (.cells e.cells 29)).heap.size)) (.mk 8 f lo hi [k]) ⟨8, fun _ => 0#64, lo, hi, some ⟨wq.heap.size, 0, none⟩, 1, 1⟩ := by
  have l0 := World.ownsRow_lit wq (base := 0) (e := 29) (size := 8) e.cells 1 (Nat.zero_le _) (by unfold maxLen; omega) rfl
  have o0 : OwnT (wq.alloc (.cells e.cells 29)) (some ⟨wq.heap.size, 0, none⟩) 1 [e] := by
    unfold OwnT
    have : tcs [e] = e.cells.toList := by simp [tcs]
    rw [this]; exact l0
  refine .mk 8 f lo hi [k] _ _ 1 [e] hf rfl (by simp) (fun i t d h1 h2 => ?_) fun _ => ?_
  · match i, h1, h2 with
    | 0, h1, h2 =>
      simp at h1 h2
      subst h1; subst h2
      exact hv
    | i + 1, h1, _ => simp at h1
  · obtain ⟨b, e1, hr1⟩ := o0.row (by simp)
    injection e1 with e1
    injection e1 with e1
    subst e1
    exact ⟨wq.heap.size, rfl, .inr ⟨hN, by rw [World.size_alloc]; omega⟩, hr1⟩

set_option maxRecDepth 100000 in
set_option maxHeartbeats 4000000 in
theorem rep47_any (S : Nat → Prop) (f : Nat → Bool) (k : Tm) (d e : TD) (w : World) (hS : ∀ j, S j → j < w.heap.size) (hf : IsK f (fun _ => 0#64)) (hv : TV w S k e) :
    Calls Try.prog 47 #[d.val, e.val] w (Wn S w (sRep f d.lo d.hi k)) := by
  have T1 : Hid (TB (((w.alloc (.cells #[.int .i64 d.op, .int .u64 (uv (d.q 0)), .int .u64 (uv (d.q 1)), .int .u64 (uv (d.q 2)), .int .u64 (uv (d.q 3)), .int .i64 d.lo, .int .i64 d.hi, .slice d.A d.n d.c] 29)).alloc (.cells #[.int .i64 e.op, .int .u64 (uv (e.q 0)), .int .u64 (uv (e.q 1)), .int .u64 (uv (e.q 2)), .int .u64 (uv (e.q 3)), .int .i64 e.lo, .int .i64 e.hi, .slice e.A e.n e.c] 29)).alloc (.cells #[.int .i64 0, .int .u64 0, .int .u64 0, .int .u64 0, .int .u64 0, .int .i64 0, .int .i64 0, .slice none 0 0] 29)) w.heap.size d) := ((TB.new w d).alloc _).alloc _
  have T2 : Hid (TB (((w.alloc (.cells #[.int .i64 d.op, .int .u64 (uv (d.q 0)), .int .u64 (uv (d.q 1)), .int .u64 (uv (d.q 2)), .int .u64 (uv (d.q 3)), .int .i64 d.lo, .int .i64 d.hi, .slice d.A d.n d.c] 29)).alloc (.cells #[.int .i64 e.op, .int .u64 (uv (e.q 0)), .int .u64 (uv (e.q 1)), .int .u64 (uv (e.q 2)), .int .u64 (uv (e.q 3)), .int .i64 e.lo, .int .i64 e.hi, .slice e.A e.n e.c] 29)).alloc (.cells #[.int .i64 0, .int .u64 0, .int .u64 0, .int .u64 0, .int .u64 0, .int .i64 0, .int .i64 0, .slice none 0 0] 29)) (w.heap.size + 1) e) := by
    have := TB.new (w.alloc (.cells #[.int .i64 d.op, .int .u64 (uv (d.q 0)), .int .u64 (uv (d.q 1)), .int .u64 (uv (d.q 2)), .int .u64 (uv (d.q 3)), .int .i64 d.lo, .int .i64 d.hi, .slice d.A d.n d.c] 29)) e
    rw [World.size_alloc] at this
    exact this.alloc _
  have T3 : Hid (TB (((w.alloc (.cells #[.int .i64 d.op, .int .u64 (uv (d.q 0)), .int .u64 (uv (d.q 1)), .int .u64 (uv (d.q 2)), .int .u64 (uv (d.q 3)), .int .i64 d.lo, .int .i64 d.hi, .slice d.A d.n d.c] 29)).alloc (.cells #[.int .i64 e.op, .int .u64 (uv (e.q 0)), .int .u64 (uv (e.q 1)), .int .u64 (uv (e.q 2)), .int .u64 (uv (e.q 3)), .int .i64 e.lo, .int .i64 e.hi, .slice e.A e.n e.c] 29)).alloc (.cells #[.int .i64 0, .int .u64 0, .int .u64 0, .int .u64 0, .int .u64 0, .int .i64 0, .int .i64 0, .slice none 0 0] 29)) (w.heap.size + 2) zT) := by
    have := TB.new ((w.alloc (.cells #[.int .i64 d.op, .int .u64 (uv (d.q 0)), .int .u64 (uv (d.q 1)), .int .u64 (uv (d.q 2)), .int .u64 (uv (d.q 3)), .int .i64 d.lo, .int .i64 d.hi, .slice d.A d.n d.c] 29)).alloc (.cells #[.int .i64 e.op, .int .u64 (uv (e.q 0)), .int .u64 (uv (e.q 1)), .int .u64 (uv (e.q 2)), .int .u64 (uv (e.q 3)), .int .i64 e.lo, .int .i64 e.hi, .slice e.A e.n e.c] 29)) zT
    rw [World.size_alloc, World.size_alloc] at this
    exact this
  have B3 : Hid (Below w.heap.size w (((w.alloc (.cells #[.int .i64 d.op, .int .u64 (uv (d.q 0)), .int .u64 (uv (d.q 1)), .int .u64 (uv (d.q 2)), .int .u64 (uv (d.q 3)), .int .i64 d.lo, .int .i64 d.hi, .slice d.A d.n d.c] 29)).alloc (.cells #[.int .i64 e.op, .int .u64 (uv (e.q 0)), .int .u64 (uv (e.q 1)), .int .u64 (uv (e.q 2)), .int .u64 (uv (e.q 3)), .int .i64 e.lo, .int .i64 e.hi, .slice e.A e.n e.c] 29)).alloc (.cells #[.int .i64 0, .int .u64 0, .int .u64 0, .int .u64 0, .int .u64 0, .int .i64 0, .int .i64 0, .slice none 0 0] 29))) := nb3 w _ _ _
  have V : Hid (∀ W : World, (∀ j, j < w.heap.size → W.heap[j]? = w.heap[j]?) → TV W (fun k => S k ∨ (w.heap.size ≤ k ∧ k < W.heap.size)) k e) := fun W hW => hv.to fun j hj => ⟨.inl hj, fun _ => hW j (hS j hj)⟩
  have KO := op_tv hv
  obtain ⟨hlo, hhi⟩ : e.lo = loOf k ∧ e.hi = hiOf k := by cases hv; exact ⟨rfl, rfl⟩
  have HF := Lib.hid hf; have HKO := Lib.hid KO; have HLO := Lib.hid hlo; have HHI := Lib.hid hhi
  clear hf hv KO hlo hhi hS
  have L := Lib.hid fun W => leaf44_any 1 W
  unfold TD.val at *
  go_enter Try.func47, Try.ntmps47
  go_upto_region 1 with fail
  generalize (((w.alloc (.cells #[.int .i64 d.op, .int .u64 (uv (d.q 0)), .int .u64 (uv (d.q 1)), .int .u64 (uv (d.q 2)), .int .u64 (uv (d.q 3)), .int .i64 d.lo, .int .i64 d.hi, .slice d.A d.n d.c] 29)).alloc (.cells #[.int .i64 e.op, .int .u64 (uv (e.q 0)), .int .u64 (uv (e.q 1)), .int .u64 (uv (e.q 2)), .int .u64 (uv (e.q 3)), .int .i64 e.lo, .int .i64 e.hi, .slice e.A e.n e.c] 29)).alloc (.cells #[.int .i64 0, .int .u64 0, .int .u64 0, .int .u64 0, .int .u64 0, .int .i64 0, .int .i64 0, .slice none 0 0] 29)) = wr at *
  obtain ⟨⟨x0, x1, x2, x3, x4, x5, x6, x7⟩, -⟩ := T1.out.all
  obtain ⟨⟨y0, y1, y2, y3, y4, y5, y6, y7⟩, -⟩ := T2.out.all
  obtain ⟨⟨r0, r1, r2, r3, r4, r5, r6, r7⟩, g0, g1, g2, g3, g4, g5, g6, g7⟩ := T3.out.all
  have rlt : w.heap.size + 2 < wr.heap.size := T3.out.lt
  by_cases hhi0 : d.hi = 0
  · have ehi0 : (d.hi == 0) = true := by rw [beq_iff_eq]; exact hhi0
    have Hhi0 := Lib.hid hhi0
    clear hhi0
    go_wp2_with fail
    refine (L.out _).mono ?_
    rintro e6 w6 ⟨rfl, hb6⟩
    have T6 := Lib.hid (T3.out.below hb6)
    have B6 := Lib.hid (B3.out.trans (hb6.mono B3.out.size))
    clear hb6 r0 r1 r2 r3 r4 r5 r6 r7 g0 g1 g2 g3 g4 g5 g6 g7 x0 x1 x2 x3 x4 x5 x6 x7 y0 y1 y2 y3 y4 y5 y6 y7
    obtain ⟨⟨r0, r1, r2, r3, r4, r5, r6, r7⟩, g0, g1, g2, g3, g4, g5, g6, g7⟩ := T6.out.all
    go_wp2
    refine bodyPost_ret (v := TD.val ⟨1, fun _ => 0#64, 0, 0, none, 0, 0⟩) ?_ rfl ?_
    · simp [results, Try.results47, go_sem, TD.val, uv, r0, r1, r2, r3, r4, r5, r6, r7]
    · have hR : sRep f d.lo d.hi k = lfT 1 := by unfold sRep; simp [isStar_eq, ← HKO.out, ← HLO.out, ← HHI.out, Hhi0.out]
      rw [hR]
      exact ⟨_, rfl, tv_lf _ _ 1, bel8 B6.out (by omega) (.int .i64 1) (.int .u64 0) (.int .u64 0) (.int .u64 0) (.int .u64 0) (.int .i64 0) (.int .i64 0) (.slice none 0 0)⟩
  · have ehi0 : (d.hi == 0) = false := by rw [beq_eq_false_iff_ne]; exact hhi0
    have Hhi0 := Lib.hid hhi0
    clear hhi0
    by_cases hk1 : e.op = 1
    · have ek1 : (e.op == 1) = true := by rw [beq_iff_eq]; exact hk1
      have Hk1 := Lib.hid hk1
      clear hk1
      go_wp2_with fail
      refine (L.out _).mono ?_
      rintro e6 w6 ⟨rfl, hb6⟩
      have T6 := Lib.hid (T3.out.below hb6)
      have B6 := Lib.hid (B3.out.trans (hb6.mono B3.out.size))
      clear hb6 r0 r1 r2 r3 r4 r5 r6 r7 g0 g1 g2 g3 g4 g5 g6 g7 x0 x1 x2 x3 x4 x5 x6 x7 y0 y1 y2 y3 y4 y5 y6 y7
      obtain ⟨⟨r0, r1, r2, r3, r4, r5, r6, r7⟩, g0, g1, g2, g3, g4, g5, g6, g7⟩ := T6.out.all
      go_wp2
      refine bodyPost_ret (v := TD.val ⟨1, fun _ => 0#64, 0, 0, none, 0, 0⟩) ?_ rfl ?_
      · simp [results, Try.results47, go_sem, TD.val, uv, r0, r1, r2, r3, r4, r5, r6, r7]
      · have hR : sRep f d.lo d.hi k = lfT 1 := by unfold sRep; simp [isStar_eq, ← HKO.out, ← HLO.out, ← HHI.out, Hhi0.out, Hk1.out]
        rw [hR]
        exact ⟨_, rfl, tv_lf _ _ 1, bel8 B6.out (by omega) (.int .i64 1) (.int .u64 0) (.int .u64 0) (.int .u64 0) (.int .u64 0) (.int .i64 0) (.int .i64 0) (.slice none 0 0)⟩
    · have ek1 : (e.op == 1) = false := by rw [beq_eq_false_iff_ne]; exact hk1
      have Hk1 := Lib.hid hk1
      clear hk1
      by_cases hk9 : e.op = 9
      · have ek9 : (e.op == 9) = true := by rw [beq_iff_eq]; exact hk9
        have Hk9 := Lib.hid hk9
        clear hk9
        by_cases hlo0 : d.lo = 0
        · have elo0 : (d.lo == 0) = true := by rw [beq_iff_eq]; exact hlo0
          have Hlo0 := Lib.hid hlo0
          clear hlo0
          go_wp2_with fail
          refine (L.out _).mono ?_
          rintro e6 w6 ⟨rfl, hb6⟩
          have T6 := Lib.hid (T3.out.below hb6)
          have B6 := Lib.hid (B3.out.trans (hb6.mono B3.out.size))
          clear hb6 r0 r1 r2 r3 r4 r5 r6 r7 g0 g1 g2 g3 g4 g5 g6 g7 x0 x1 x2 x3 x4 x5 x6 x7 y0 y1 y2 y3 y4 y5 y6 y7
          obtain ⟨⟨r0, r1, r2, r3, r4, r5, r6, r7⟩, g0, g1, g2, g3, g4, g5, g6, g7⟩ := T6.out.all
          go_wp2
          refine bodyPost_ret (v := TD.val ⟨1, fun _ => 0#64, 0, 0, none, 0, 0⟩) ?_ rfl ?_
          · simp [results, Try.results47, go_sem, TD.val, uv, r0, r1, r2, r3, r4, r5, r6, r7]
          · have hR : sRep f d.lo d.hi k = lfT 1 := by unfold sRep; simp [isStar_eq, ← HKO.out, ← HLO.out, ← HHI.out, Hhi0.out, Hk1.out, Hk9.out, Hlo0.out]
            rw [hR]
            exact ⟨_, rfl, tv_lf _ _ 1, bel8 B6.out (by omega) (.int .i64 1) (.int .u64 0) (.int .u64 0) (.int .u64 0) (.int .u64 0) (.int .i64 0) (.int .i64 0) (.slice none 0 0)⟩
        · have elo0 : (d.lo == 0) = false := by rw [beq_eq_false_iff_ne]; exact hlo0
          have Hlo0 := Lib.hid hlo0
          clear hlo0
          go_wp2
          refine bodyPost_ret (v := TD.val e) ?_ rfl ?_
          · simp [results, Try.results47, go_sem, TD.val, r0, r1, r2, r3, r4, r5, r6, r7]
          · have hR : sRep f d.lo d.hi k = k := by unfold sRep; simp [isStar_eq, ← HKO.out, ← HLO.out, ← HHI.out, Hhi0.out, Hk1.out, Hk9.out, Hlo0.out]
            rw [hR]
            exact ⟨e, rfl, V.out _ (fun j hj => (set8_heap _ _ _ _ _ _ _ _ _ _ _ (by omega)).trans (B3.out.block j hj)), bel8 B3.out (by omega) (.int .i64 e.op) (.int .u64 (uv (e.q 0))) (.int .u64 (uv (e.q 1))) (.int .u64 (uv (e.q 2))) (.int .u64 (uv (e.q 3))) (.int .i64 e.lo) (.int .i64 e.hi) (.slice e.A e.n e.c)⟩
      · have ek9 : (e.op == 9) = false := by rw [beq_eq_false_iff_ne]; exact hk9
        have Hk9 := Lib.hid hk9
        clear hk9
        by_cases hlo1 : d.lo = 1
        · have elo1 : (d.lo == 1) = true := by rw [beq_iff_eq]; exact hlo1
          have Hlo1 := Lib.hid hlo1
          clear hlo1
          by_cases hhi1 : d.hi = 1
          · have ehi1 : (d.hi == 1) = true := by rw [beq_iff_eq]; exact hhi1
            have Hhi1 := Lib.hid hhi1
            clear hhi1
            go_wp2
            refine bodyPost_ret (v := TD.val e) ?_ rfl ?_
            · simp [results, Try.results47, go_sem, TD.val, r0, r1, r2, r3, r4, r5, r6, r7]
            · have hR : sRep f d.lo d.hi k = k := by unfold sRep; simp [isStar_eq, ← HKO.out, ← HLO.out, ← HHI.out, Hhi0.out, Hk1.out, Hk9.out, Hlo1.out, Hhi1.out]
              rw [hR]
              exact ⟨e, rfl, V.out _ (fun j hj => (set8_heap _ _ _ _ _ _ _ _ _ _ _ (by omega)).trans (B3.out.block j hj)), bel8 B3.out (by omega) (.int .i64 e.op) (.int .u64 (uv (e.q 0))) (.int .u64 (uv (e.q 1))) (.int .u64 (uv (e.q 2))) (.int .u64 (uv (e.q 3))) (.int .i64 e.lo) (.int .i64 e.hi) (.slice e.A e.n e.c)⟩
          · have ehi1 : (d.hi == 1) = false := by rw [beq_eq_false_iff_ne]; exact hhi1
            have Hhi1 := Lib.hid hhi1
            clear hhi1
            by_cases hk8 : e.op = 8
            · have ek8 : (e.op == 8) = true := by rw [beq_iff_eq]; exact hk8
              have Hk8 := Lib.hid hk8
              clear hk8
              by_cases hkl0 : e.lo = 0
              · have ekl0 : (e.lo == 0) = true := by rw [beq_iff_eq]; exact hkl0
                have Hkl0 := Lib.hid hkl0
                clear hkl0
                by_cases hkh : e.hi = -1
                · have ekh : (e.hi == -1) = true := by rw [beq_iff_eq]; exact hkh
                  have Hkh := Lib.hid hkh
                  clear hkh
                  go_wp2
                  refine bodyPost_ret (v := TD.val e) ?_ rfl ?_
                  · simp [results, Try.results47, go_sem, TD.val, r0, r1, r2, r3, r4, r5, r6, r7]
                  · have hR : sRep f d.lo d.hi k = k := by unfold sRep; simp [isStar_eq, ← HKO.out, ← HLO.out, ← HHI.out, Hhi0.out, Hk1.out, Hk9.out, Hlo1.out, Hhi1.out, Hk8.out, Hkl0.out, Hkh.out]
                    rw [hR]
                    exact ⟨e, rfl, V.out _ (fun j hj => (set8_heap _ _ _ _ _ _ _ _ _ _ _ (by omega)).trans (B3.out.block j hj)), bel8 B3.out (by omega) (.int .i64 e.op) (.int .u64 (uv (e.q 0))) (.int .u64 (uv (e.q 1))) (.int .u64 (uv (e.q 2))) (.int .u64 (uv (e.q 3))) (.int .i64 e.lo) (.int .i64 e.hi) (.slice e.A e.n e.c)⟩
                · have ekh : (e.hi == -1) = false := by rw [beq_eq_false_iff_ne]; exact hkh
                  have Hkh := Lib.hid hkh
                  clear hkh
                  have Q8 : TB ((set8 wr (w.heap.size + 1 + 1) (.int .i64 8) (.int .u64 0) (.int .u64 0) (.int .u64 0) (.int .u64 0) (.int .i64 d.lo) (.int .i64 d.hi) (.slice (some ⟨wr.heap.size, 0, none⟩) 1 1)).alloc (.cells e.cells 29)) (w.heap.size + 1 + 1) ⟨8, fun _ => 0#64, d.lo, d.hi, some ⟨wr.heap.size, 0, none⟩, 1, 1⟩ := (T3.out.to8 ⟨8, fun _ => 0#64, d.lo, d.hi, some ⟨wr.heap.size, 0, none⟩, 1, 1⟩).alloc _
                  have VE : TV ((set8 wr (w.heap.size + 1 + 1) (.int .i64 8) (.int .u64 0) (.int .u64 0) (.int .u64 0) (.int .u64 0) (.int .i64 d.lo) (.int .i64 d.hi) (.slice (some ⟨wr.heap.size, 0, none⟩) 1 1)).alloc (.cells e.cells 29)) (fun j => S j ∨ (w.heap.size ≤ j ∧ j < ((set8 wr (w.heap.size + 1 + 1) (.int .i64 8) (.int .u64 0) (.int .u64 0) (.int .u64 0) (.int .u64 0) (.int .i64 d.lo) (.int .i64 d.hi) (.slice (some ⟨wr.heap.size, 0, none⟩) 1 1)).alloc (.cells e.cells 29)).heap.size)) k e := V.out _ fun j hj => ((below_new _ _).block j (by rw [set8_size]; omega)).trans ((set8_heap _ _ _ _ _ _ _ _ _ _ _ (by omega)).trans (B3.out.block j hj))
                  have R1 := one_row _ S w.heap.size f d.lo d.hi k e HF.out VE (by rw [set8_size]; omega)
                  rw [set8_size] at R1
                  have R2 : Below w.heap.size w ((set8 wr (w.heap.size + 1 + 1) (.int .i64 8) (.int .u64 0) (.int .u64 0) (.int .u64 0) (.int .u64 0) (.int .i64 d.lo) (.int .i64 d.hi) (.slice (some ⟨wr.heap.size, 0, none⟩) 1 1)).alloc (.cells e.cells 29)) := (bel8 B3.out (by omega) _ _ _ _ _ _ _ _).trans ((below_new _ _).mono (by rw [set8_size]; omega))
                  have s0 : ((set8 wr (w.heap.size + 1 + 1) (.int .i64 8) (.int .u64 0) (.int .u64 0) (.int .u64 0) (.int .u64 0) (.int .i64 d.lo) (.int .i64 d.hi) (.slice (some ⟨wr.heap.size, 0, none⟩) 1 1)).alloc (.cells e.cells 29)).cell? ⟨w.heap.size + 1 + 1, 0, none⟩ = some (.int .i64 8) := Q8.all.1.1
                  have s1 : ((set8 wr (w.heap.size + 1 + 1) (.int .i64 8) (.int .u64 0) (.int .u64 0) (.int .u64 0) (.int .u64 0) (.int .i64 d.lo) (.int .i64 d.hi) (.slice (some ⟨wr.heap.size, 0, none⟩) 1 1)).alloc (.cells e.cells 29)).cell? ⟨w.heap.size + 1 + 1, 1, none⟩ = some (.int .u64 0) := Q8.all.1.2.1
                  have s2 : ((set8 wr (w.heap.size + 1 + 1) (.int .i64 8) (.int .u64 0) (.int .u64 0) (.int .u64 0) (.int .u64 0) (.int .i64 d.lo) (.int .i64 d.hi) (.slice (some ⟨wr.heap.size, 0, none⟩) 1 1)).alloc (.cells e.cells 29)).cell? ⟨w.heap.size + 1 + 1, 2, none⟩ = some (.int .u64 0) := Q8.all.1.2.2.1
                  have s3 : ((set8 wr (w.heap.size + 1 + 1) (.int .i64 8) (.int .u64 0) (.int .u64 0) (.int .u64 0) (.int .u64 0) (.int .i64 d.lo) (.int .i64 d.hi) (.slice (some ⟨wr.heap.size, 0, none⟩) 1 1)).alloc (.cells e.cells 29)).cell? ⟨w.heap.size + 1 + 1, 3, none⟩ = some (.int .u64 0) := Q8.all.1.2.2.2.1
                  have s4 : ((set8 wr (w.heap.size + 1 + 1) (.int .i64 8) (.int .u64 0) (.int .u64 0) (.int .u64 0) (.int .u64 0) (.int .i64 d.lo) (.int .i64 d.hi) (.slice (some ⟨wr.heap.size, 0, none⟩) 1 1)).alloc (.cells e.cells 29)).cell? ⟨w.heap.size + 1 + 1, 4, none⟩ = some (.int .u64 0) := Q8.all.1.2.2.2.2.1
                  have s5 : ((set8 wr (w.heap.size + 1 + 1) (.int .i64 8) (.int .u64 0) (.int .u64 0) (.int .u64 0) (.int .u64 0) (.int .i64 d.lo) (.int .i64 d.hi) (.slice (some ⟨wr.heap.size, 0, none⟩) 1 1)).alloc (.cells e.cells 29)).cell? ⟨w.heap.size + 1 + 1, 5, none⟩ = some (.int .i64 d.lo) := Q8.all.1.2.2.2.2.2.1
                  have s6 : ((set8 wr (w.heap.size + 1 + 1) (.int .i64 8) (.int .u64 0) (.int .u64 0) (.int .u64 0) (.int .u64 0) (.int .i64 d.lo) (.int .i64 d.hi) (.slice (some ⟨wr.heap.size, 0, none⟩) 1 1)).alloc (.cells e.cells 29)).cell? ⟨w.heap.size + 1 + 1, 6, none⟩ = some (.int .i64 d.hi) := Q8.all.1.2.2.2.2.2.2.1
                  have s7 : ((set8 wr (w.heap.size + 1 + 1) (.int .i64 8) (.int .u64 0) (.int .u64 0) (.int .u64 0) (.int .u64 0) (.int .i64 d.lo) (.int .i64 d.hi) (.slice (some ⟨wr.heap.size, 0, none⟩) 1 1)).alloc (.cells e.cells 29)).cell? ⟨w.heap.size + 1 + 1, 7, none⟩ = some (.slice (some ⟨wr.heap.size, 0, none⟩) 1 1) := Q8.all.1.2.2.2.2.2.2.2
                  have R1 := Lib.hid R1; have R2 := Lib.hid R2
                  unfold set8 TD.cells at s0 s1 s2 s3 s4 s5 s6 s7
                  clear Q8 VE L V
                  go_wp2
                  refine bodyPost_ret (v := .agg #[.int .i64 8, .int .u64 0, .int .u64 0, .int .u64 0, .int .u64 0, .int .i64 d.lo, .int .i64 d.hi, .slice (some ⟨wr.heap.size, 0, none⟩) 1 1]) ?_ rfl ?_
                  · simp [results, Try.results47, go_sem, s0, s1, s2, s3, s4, s5, s6, s7]
                  · have hR : sRep f d.lo d.hi k = .mk 8 f d.lo d.hi [k] := by unfold sRep; simp [isStar_eq, ← HKO.out, ← HLO.out, ← HHI.out, Hhi0.out, Hk1.out, Hk9.out, Hlo1.out, Hhi1.out, Hk8.out, Hkl0.out, Hkh.out]
                    rw [hR]
                    exact ⟨⟨8, fun _ => 0#64, d.lo, d.hi, some ⟨wr.heap.size, 0, none⟩, 1, 1⟩, rfl, R1.out, R2.out⟩
              · have ekl0 : (e.lo == 0) = false := by rw [beq_eq_false_iff_ne]; exact hkl0
                have Hkl0 := Lib.hid hkl0
                clear hkl0
                have Q8 : TB ((set8 wr (w.heap.size + 1 + 1) (.int .i64 8) (.int .u64 0) (.int .u64 0) (.int .u64 0) (.int .u64 0) (.int .i64 d.lo) (.int .i64 d.hi) (.slice (some ⟨wr.heap.size, 0, none⟩) 1 1)).alloc (.cells e.cells 29)) (w.heap.size + 1 + 1) ⟨8, fun _ => 0#64, d.lo, d.hi, some ⟨wr.heap.size, 0, none⟩, 1, 1⟩ := (T3.out.to8 ⟨8, fun _ => 0#64, d.lo, d.hi, some ⟨wr.heap.size, 0, none⟩, 1, 1⟩).alloc _
                have VE : TV ((set8 wr (w.heap.size + 1 + 1) (.int .i64 8) (.int .u64 0) (.int .u64 0) (.int .u64 0) (.int .u64 0) (.int .i64 d.lo) (.int .i64 d.hi) (.slice (some ⟨wr.heap.size, 0, none⟩) 1 1)).alloc (.cells e.cells 29)) (fun j => S j ∨ (w.heap.size ≤ j ∧ j < ((set8 wr (w.heap.size + 1 + 1) (.int .i64 8) (.int .u64 0) (.int .u64 0) (.int .u64 0) (.int .u64 0) (.int .i64 d.lo) (.int .i64 d.hi) (.slice (some ⟨wr.heap.size, 0, none⟩) 1 1)).alloc (.cells e.cells 29)).heap.size)) k e := V.out _ fun j hj => ((below_new _ _).block j (by rw [set8_size]; omega)).trans ((set8_heap _ _ _ _ _ _ _ _ _ _ _ (by omega)).trans (B3.out.block j hj))
                have R1 := one_row _ S w.heap.size f d.lo d.hi k e HF.out VE (by rw [set8_size]; omega)
                rw [set8_size] at R1
                have R2 : Below w.heap.size w ((set8 wr (w.heap.size + 1 + 1) (.int .i64 8) (.int .u64 0) (.int .u64 0) (.int .u64 0) (.int .u64 0) (.int .i64 d.lo) (.int .i64 d.hi) (.slice (some ⟨wr.heap.size, 0, none⟩) 1 1)).alloc (.cells e.cells 29)) := (bel8 B3.out (by omega) _ _ _ _ _ _ _ _).trans ((below_new _ _).mono (by rw [set8_size]; omega))
                have s0 : ((set8 wr (w.heap.size + 1 + 1) (.int .i64 8) (.int .u64 0) (.int .u64 0) (.int .u64 0) (.int .u64 0) (.int .i64 d.lo) (.int .i64 d.hi) (.slice (some ⟨wr.heap.size, 0, none⟩) 1 1)).alloc (.cells e.cells 29)).cell? ⟨w.heap.size + 1 + 1, 0, none⟩ = some (.int .i64 8) := Q8.all.1.1
                have s1 : ((set8 wr (w.heap.size + 1 + 1) (.int .i64 8) (.int .u64 0) (.int .u64 0) (.int .u64 0) (.int .u64 0) (.int .i64 d.lo) (.int .i64 d.hi) (.slice (some ⟨wr.heap.size, 0, none⟩) 1 1)).alloc (.cells e.cells 29)).cell? ⟨w.heap.size + 1 + 1, 1, none⟩ = some (.int .u64 0) := Q8.all.1.2.1
                have s2 : ((set8 wr (w.heap.size + 1 + 1) (.int .i64 8) (.int .u64 0) (.int .u64 0) (.int .u64 0) (.int .u64 0) (.int .i64 d.lo) (.int .i64 d.hi) (.slice (some ⟨wr.heap.size, 0, none⟩) 1 1)).alloc (.cells e.cells 29)).cell? ⟨w.heap.size + 1 + 1, 2, none⟩ = some (.int .u64 0) := Q8.all.1.2.2.1
                have s3 : ((set8 wr (w.heap.size + 1 + 1) (.int .i64 8) (.int .u64 0) (.int .u64 0) (.int .u64 0) (.int .u64 0) (.int .i64 d.lo) (.int .i64 d.hi) (.slice (some ⟨wr.heap.size, 0, none⟩) 1 1)).alloc (.cells e.cells 29)).cell? ⟨w.heap.size + 1 + 1, 3, none⟩ = some (.int .u64 0) := Q8.all.1.2.2.2.1
                have s4 : ((set8 wr (w.heap.size + 1 + 1) (.int .i64 8) (.int .u64 0) (.int .u64 0) (.int .u64 0) (.int .u64 0) (.int .i64 d.lo) (.int .i64 d.hi) (.slice (some ⟨wr.heap.size, 0, none⟩) 1 1)).alloc (.cells e.cells 29)).cell? ⟨w.heap.size + 1 + 1, 4, none⟩ = some (.int .u64 0) := Q8.all.1.2.2.2.2.1
                have s5 : ((set8 wr (w.heap.size + 1 + 1) (.int .i64 8) (.int .u64 0) (.int .u64 0) (.int .u64 0) (.int .u64 0) (.int .i64 d.lo) (.int .i64 d.hi) (.slice (some ⟨wr.heap.size, 0, none⟩) 1 1)).alloc (.cells e.cells 29)).cell? ⟨w.heap.size + 1 + 1, 5, none⟩ = some (.int .i64 d.lo) := Q8.all.1.2.2.2.2.2.1
                have s6 : ((set8 wr (w.heap.size + 1 + 1) (.int .i64 8) (.int .u64 0) (.int .u64 0) (.int .u64 0) (.int .u64 0) (.int .i64 d.lo) (.int .i64 d.hi) (.slice (some ⟨wr.heap.size, 0, none⟩) 1 1)).alloc (.cells e.cells 29)).cell? ⟨w.heap.size + 1 + 1, 6, none⟩ = some (.int .i64 d.hi) := Q8.all.1.2.2.2.2.2.2.1
                have s7 : ((set8 wr (w.heap.size + 1 + 1) (.int .i64 8) (.int .u64 0) (.int .u64 0) (.int .u64 0) (.int .u64 0) (.int .i64 d.lo) (.int .i64 d.hi) (.slice (some ⟨wr.heap.size, 0, none⟩) 1 1)).alloc (.cells e.cells 29)).cell? ⟨w.heap.size + 1 + 1, 7, none⟩ = some (.slice (some ⟨wr.heap.size, 0, none⟩) 1 1) := Q8.all.1.2.2.2.2.2.2.2
                have R1 := Lib.hid R1; have R2 := Lib.hid R2
                unfold set8 TD.cells at s0 s1 s2 s3 s4 s5 s6 s7
                clear Q8 VE L V
                go_wp2
                refine bodyPost_ret (v := .agg #[.int .i64 8, .int .u64 0, .int .u64 0, .int .u64 0, .int .u64 0, .int .i64 d.lo, .int .i64 d.hi, .slice (some ⟨wr.heap.size, 0, none⟩) 1 1]) ?_ rfl ?_
                · simp [results, Try.results47, go_sem, s0, s1, s2, s3, s4, s5, s6, s7]
                · have hR : sRep f d.lo d.hi k = .mk 8 f d.lo d.hi [k] := by unfold sRep; simp [isStar_eq, ← HKO.out, ← HLO.out, ← HHI.out, Hhi0.out, Hk1.out, Hk9.out, Hlo1.out, Hhi1.out, Hk8.out, Hkl0.out]
                  rw [hR]
                  exact ⟨⟨8, fun _ => 0#64, d.lo, d.hi, some ⟨wr.heap.size, 0, none⟩, 1, 1⟩, rfl, R1.out, R2.out⟩
            · have ek8 : (e.op == 8) = false := by rw [beq_eq_false_iff_ne]; exact hk8
              have Hk8 := Lib.hid hk8
              clear hk8
              have Q8 : TB ((set8 wr (w.heap.size + 1 + 1) (.int .i64 8) (.int .u64 0) (.int .u64 0) (.int .u64 0) (.int .u64 0) (.int .i64 d.lo) (.int .i64 d.hi) (.slice (some ⟨wr.heap.size, 0, none⟩) 1 1)).alloc (.cells e.cells 29)) (w.heap.size + 1 + 1) ⟨8, fun _ => 0#64, d.lo, d.hi, some ⟨wr.heap.size, 0, none⟩, 1, 1⟩ := (T3.out.to8 ⟨8, fun _ => 0#64, d.lo, d.hi, some ⟨wr.heap.size, 0, none⟩, 1, 1⟩).alloc _
              have VE : TV ((set8 wr (w.heap.size + 1 + 1) (.int .i64 8) (.int .u64 0) (.int .u64 0) (.int .u64 0) (.int .u64 0) (.int .i64 d.lo) (.int .i64 d.hi) (.slice (some ⟨wr.heap.size, 0, none⟩) 1 1)).alloc (.cells e.cells 29)) (fun j => S j ∨ (w.heap.size ≤ j ∧ j < ((set8 wr (w.heap.size + 1 + 1) (.int .i64 8) (.int .u64 0) (.int .u64 0) (.int .u64 0) (.int .u64 0) (.int .i64 d.lo) (.int .i64 d.hi) (.slice (some ⟨wr.heap.size, 0, none⟩) 1 1)).alloc (.cells e.cells 29)).heap.size)) k e := V.out _ fun j hj => ((below_new _ _).block j (by rw [set8_size]; omega)).trans ((set8_heap _ _ _ _ _ _ _ _ _ _ _ (by omega)).trans (B3.out.block j hj))
              have R1 := one_row _ S w.heap.size f d.lo d.hi k e HF.out VE (by rw [set8_size]; omega)
              rw [set8_size] at R1
              have R2 : Below w.heap.size w ((set8 wr (w.heap.size + 1 + 1) (.int .i64 8) (.int .u64 0) (.int .u64 0) (.int .u64 0) (.int .u64 0) (.int .i64 d.lo) (.int .i64 d.hi) (.slice (some ⟨wr.heap.size, 0, none⟩) 1 1)).alloc (.cells e.cells 29)) := (bel8 B3.out (by omega) _ _ _ _ _ _ _ _).trans ((below_new _ _).mono (by rw [set8_size]; omega))
              have s0 : ((set8 wr (w.heap.size + 1 + 1) (.int .i64 8) (.int .u64 0) (.int .u64 0) (.int .u64 0) (.int .u64 0) (.int .i64 d.lo) (.int .i64 d.hi) (.slice (some ⟨wr.heap.size, 0, none⟩) 1 1)).alloc (.cells e.cells 29)).cell? ⟨w.heap.size + 1 + 1, 0, none⟩ = some (.int .i64 8) := Q8.all.1.1
              have s1 : ((set8 wr (w.heap.size + 1 + 1) (.int .i64 8) (.int .u64 0) (.int .u64 0) (.int .u64 0) (.int .u64 0) (.int .i64 d.lo) (.int .i64 d.hi) (.slice (some ⟨wr.heap.size, 0, none⟩) 1 1)).alloc (.cells e.cells 29)).cell? ⟨w.heap.size + 1 + 1, 1, none⟩ = some (.int .u64 0) := Q8.all.1.2.1
              have s2 : ((set8 wr (w.heap.size + 1 + 1) (.int .i64 8) (.int .u64 0) (.int .u64 0) (.int .u64 0) (.int .u64 0) (.int .i64 d.lo) (.int .i64 d.hi) (.slice (some ⟨wr.heap.size, 0, none⟩) 1 1)).alloc (.cells e.cells 29)).cell? ⟨w.heap.size + 1 + 1, 2, none⟩ = some (.int .u64 0) := Q8.all.1.2.2.1
              have s3 : ((set8 wr (w.heap.size + 1 + 1) (.int .i64 8) (.int .u64 0) (.int .u64 0) (.int .u64 0) (.int .u64 0) (.int .i64 d.lo) (.int .i64 d.hi) (.slice (some ⟨wr.heap.size, 0, none⟩) 1 1)).alloc (.cells e.cells 29)).cell? ⟨w.heap.size + 1 + 1, 3, none⟩ = some (.int .u64 0) := Q8.all.1.2.2.2.1
              have s4 : ((set8 wr (w.heap.size + 1 + 1) (.int .i64 8) (.int .u64 0) (.int .u64 0) (.int .u64 0) (.int .u64 0) (.int .i64 d.lo) (.int .i64 d.hi) (.slice (some ⟨wr.heap.size, 0, none⟩) 1 1)).alloc (.cells e.cells 29)).cell? ⟨w.heap.size + 1 + 1, 4, none⟩ = some (.int .u64 0) := Q8.all.1.2.2.2.2.1
              have s5 : ((set8 wr (w.heap.size + 1 + 1) (.int .i64 8) (.int .u64 0) (.int .u64 0) (.int .u64 0) (.int .u64 0) (.int .i64 d.lo) (.int .i64 d.hi) (.slice (some ⟨wr.heap.size, 0, none⟩) 1 1)).alloc (.cells e.cells 29)).cell? ⟨w.heap.size + 1 + 1, 5, none⟩ = some (.int .i64 d.lo) := Q8.all.1.2.2.2.2.2.1
              have s6 : ((set8 wr (w.heap.size + 1 + 1) (.int .i64 8) (.int .u64 0) (.int .u64 0) (.int .u64 0) (.int .u64 0) (.int .i64 d.lo) (.int .i64 d.hi) (.slice (some ⟨wr.heap.size, 0, none⟩) 1 1)).alloc (.cells e.cells 29)).cell? ⟨w.heap.size + 1 + 1, 6, none⟩ = some (.int .i64 d.hi) := Q8.all.1.2.2.2.2.2.2.1
              have s7 : ((set8 wr (w.heap.size + 1 + 1) (.int .i64 8) (.int .u64 0) (.int .u64 0) (.int .u64 0) (.int .u64 0) (.int .i64 d.lo) (.int .i64 d.hi) (.slice (some ⟨wr.heap.size, 0, none⟩) 1 1)).alloc (.cells e.cells 29)).cell? ⟨w.heap.size + 1 + 1, 7, none⟩ = some (.slice (some ⟨wr.heap.size, 0, none⟩) 1 1) := Q8.all.1.2.2.2.2.2.2.2
              have R1 := Lib.hid R1; have R2 := Lib.hid R2
              unfold set8 TD.cells at s0 s1 s2 s3 s4 s5 s6 s7
              clear Q8 VE L V
              go_wp2
              refine bodyPost_ret (v := .agg #[.int .i64 8, .int .u64 0, .int .u64 0, .int .u64 0, .int .u64 0, .int .i64 d.lo, .int .i64 d.hi, .slice (some ⟨wr.heap.size, 0, none⟩) 1 1]) ?_ rfl ?_
              · simp [results, Try.results47, go_sem, s0, s1, s2, s3, s4, s5, s6, s7]
              · have hR : sRep f d.lo d.hi k = .mk 8 f d.lo d.hi [k] := by unfold sRep; simp [isStar_eq, ← HKO.out, ← HLO.out, ← HHI.out, Hhi0.out, Hk1.out, Hk9.out, Hlo1.out, Hhi1.out, Hk8.out]
                rw [hR]
                exact ⟨⟨8, fun _ => 0#64, d.lo, d.hi, some ⟨wr.heap.size, 0, none⟩, 1, 1⟩, rfl, R1.out, R2.out⟩
        · have elo1 : (d.lo == 1) = false := by rw [beq_eq_false_iff_ne]; exact hlo1
          have Hlo1 := Lib.hid hlo1
          clear hlo1
          by_cases hk8 : e.op = 8
          · have ek8 : (e.op == 8) = true := by rw [beq_iff_eq]; exact hk8
            have Hk8 := Lib.hid hk8
            clear hk8
            by_cases hkl0 : e.lo = 0
            · have ekl0 : (e.lo == 0) = true := by rw [beq_iff_eq]; exact hkl0
              have Hkl0 := Lib.hid hkl0
              clear hkl0
              by_cases hkh : e.hi = -1
              · have ekh : (e.hi == -1) = true := by rw [beq_iff_eq]; exact hkh
                have Hkh := Lib.hid hkh
                clear hkh
                go_wp2
                refine bodyPost_ret (v := TD.val e) ?_ rfl ?_
                · simp [results, Try.results47, go_sem, TD.val, r0, r1, r2, r3, r4, r5, r6, r7]
                · have hR : sRep f d.lo d.hi k = k := by unfold sRep; simp [isStar_eq, ← HKO.out, ← HLO.out, ← HHI.out, Hhi0.out, Hk1.out, Hk9.out, Hlo1.out, Hk8.out, Hkl0.out, Hkh.out]
                  rw [hR]
                  exact ⟨e, rfl, V.out _ (fun j hj => (set8_heap _ _ _ _ _ _ _ _ _ _ _ (by omega)).trans (B3.out.block j hj)), bel8 B3.out (by omega) (.int .i64 e.op) (.int .u64 (uv (e.q 0))) (.int .u64 (uv (e.q 1))) (.int .u64 (uv (e.q 2))) (.int .u64 (uv (e.q 3))) (.int .i64 e.lo) (.int .i64 e.hi) (.slice e.A e.n e.c)⟩
              · have ekh : (e.hi == -1) = false := by rw [beq_eq_false_iff_ne]; exact hkh
                have Hkh := Lib.hid hkh
                clear hkh
                have Q8 : TB ((set8 wr (w.heap.size + 1 + 1) (.int .i64 8) (.int .u64 0) (.int .u64 0) (.int .u64 0) (.int .u64 0) (.int .i64 d.lo) (.int .i64 d.hi) (.slice (some ⟨wr.heap.size, 0, none⟩) 1 1)).alloc (.cells e.cells 29)) (w.heap.size + 1 + 1) ⟨8, fun _ => 0#64, d.lo, d.hi, some ⟨wr.heap.size, 0, none⟩, 1, 1⟩ := (T3.out.to8 ⟨8, fun _ => 0#64, d.lo, d.hi, some ⟨wr.heap.size, 0, none⟩, 1, 1⟩).alloc _
                have VE : TV ((set8 wr (w.heap.size + 1 + 1) (.int .i64 8) (.int .u64 0) (.int .u64 0) (.int .u64 0) (.int .u64 0) (.int .i64 d.lo) (.int .i64 d.hi) (.slice (some ⟨wr.heap.size, 0, none⟩) 1 1)).alloc (.cells e.cells 29)) (fun j => S j ∨ (w.heap.size ≤ j ∧ j < ((set8 wr (w.heap.size + 1 + 1) (.int .i64 8) (.int .u64 0) (.int .u64 0) (.int .u64 0) (.int .u64 0) (.int .i64 d.lo) (.int .i64 d.hi) (.slice (some ⟨wr.heap.size, 0, none⟩) 1 1)).alloc (.cells e.cells 29)).heap.size)) k e := V.out _ fun j hj => ((below_new _ _).block j (by rw [set8_size]; omega)).trans ((set8_heap _ _ _ _ _ _ _ _ _ _ _ (by omega)).trans (B3.out.block j hj))
                have R1 := one_row _ S w.heap.size f d.lo d.hi k e HF.out VE (by rw [set8_size]; omega)
                rw [set8_size] at R1
                have R2 : Below w.heap.size w ((set8 wr (w.heap.size + 1 + 1) (.int .i64 8) (.int .u64 0) (.int .u64 0) (.int .u64 0) (.int .u64 0) (.int .i64 d.lo) (.int .i64 d.hi) (.slice (some ⟨wr.heap.size, 0, none⟩) 1 1)).alloc (.cells e.cells 29)) := (bel8 B3.out (by omega) _ _ _ _ _ _ _ _).trans ((below_new _ _).mono (by rw [set8_size]; omega))
                have s0 : ((set8 wr (w.heap.size + 1 + 1) (.int .i64 8) (.int .u64 0) (.int .u64 0) (.int .u64 0) (.int .u64 0) (.int .i64 d.lo) (.int .i64 d.hi) (.slice (some ⟨wr.heap.size, 0, none⟩) 1 1)).alloc (.cells e.cells 29)).cell? ⟨w.heap.size + 1 + 1, 0, none⟩ = some (.int .i64 8) := Q8.all.1.1
                have s1 : ((set8 wr (w.heap.size + 1 + 1) (.int .i64 8) (.int .u64 0) (.int .u64 0) (.int .u64 0) (.int .u64 0) (.int .i64 d.lo) (.int .i64 d.hi) (.slice (some ⟨wr.heap.size, 0, none⟩) 1 1)).alloc (.cells e.cells 29)).cell? ⟨w.heap.size + 1 + 1, 1, none⟩ = some (.int .u64 0) := Q8.all.1.2.1
                have s2 : ((set8 wr (w.heap.size + 1 + 1) (.int .i64 8) (.int .u64 0) (.int .u64 0) (.int .u64 0) (.int .u64 0) (.int .i64 d.lo) (.int .i64 d.hi) (.slice (some ⟨wr.heap.size, 0, none⟩) 1 1)).alloc (.cells e.cells 29)).cell? ⟨w.heap.size + 1 + 1, 2, none⟩ = some (.int .u64 0) := Q8.all.1.2.2.1
                have s3 : ((set8 wr (w.heap.size + 1 + 1) (.int .i64 8) (.int .u64 0) (.int .u64 0) (.int .u64 0) (.int .u64 0) (.int .i64 d.lo) (.int .i64 d.hi) (.slice (some ⟨wr.heap.size, 0, none⟩) 1 1)).alloc (.cells e.cells 29)).cell? ⟨w.heap.size + 1 + 1, 3, none⟩ = some (.int .u64 0) := Q8.all.1.2.2.2.1
                have s4 : ((set8 wr (w.heap.size + 1 + 1) (.int .i64 8) (.int .u64 0) (.int .u64 0) (.int .u64 0) (.int .u64 0) (.int .i64 d.lo) (.int .i64 d.hi) (.slice (some ⟨wr.heap.size, 0, none⟩) 1 1)).alloc (.cells e.cells 29)).cell? ⟨w.heap.size + 1 + 1, 4, none⟩ = some (.int .u64 0) := Q8.all.1.2.2.2.2.1
                have s5 : ((set8 wr (w.heap.size + 1 + 1) (.int .i64 8) (.int .u64 0) (.int .u64 0) (.int .u64 0) (.int .u64 0) (.int .i64 d.lo) (.int .i64 d.hi) (.slice (some ⟨wr.heap.size, 0, none⟩) 1 1)).alloc (.cells e.cells 29)).cell? ⟨w.heap.size + 1 + 1, 5, none⟩ = some (.int .i64 d.lo) := Q8.all.1.2.2.2.2.2.1
                have s6 : ((set8 wr (w.heap.size + 1 + 1) (.int .i64 8) (.int .u64 0) (.int .u64 0) (.int .u64 0) (.int .u64 0) (.int .i64 d.lo) (.int .i64 d.hi) (.slice (some ⟨wr.heap.size, 0, none⟩) 1 1)).alloc (.cells e.cells 29)).cell? ⟨w.heap.size + 1 + 1, 6, none⟩ = some (.int .i64 d.hi) := Q8.all.1.2.2.2.2.2.2.1
                have s7 : ((set8 wr (w.heap.size + 1 + 1) (.int .i64 8) (.int .u64 0) (.int .u64 0) (.int .u64 0) (.int .u64 0) (.int .i64 d.lo) (.int .i64 d.hi) (.slice (some ⟨wr.heap.size, 0, none⟩) 1 1)).alloc (.cells e.cells 29)).cell? ⟨w.heap.size + 1 + 1, 7, none⟩ = some (.slice (some ⟨wr.heap.size, 0, none⟩) 1 1) := Q8.all.1.2.2.2.2.2.2.2
                have R1 := Lib.hid R1; have R2 := Lib.hid R2
                unfold set8 TD.cells at s0 s1 s2 s3 s4 s5 s6 s7
                clear Q8 VE L V
                go_wp2
                refine bodyPost_ret (v := .agg #[.int .i64 8, .int .u64 0, .int .u64 0, .int .u64 0, .int .u64 0, .int .i64 d.lo, .int .i64 d.hi, .slice (some ⟨wr.heap.size, 0, none⟩) 1 1]) ?_ rfl ?_
                · simp [results, Try.results47, go_sem, s0, s1, s2, s3, s4, s5, s6, s7]
                · have hR : sRep f d.lo d.hi k = .mk 8 f d.lo d.hi [k] := by unfold sRep; simp [isStar_eq, ← HKO.out, ← HLO.out, ← HHI.out, Hhi0.out, Hk1.out, Hk9.out, Hlo1.out, Hk8.out, Hkl0.out, Hkh.out]
                  rw [hR]
                  exact ⟨⟨8, fun _ => 0#64, d.lo, d.hi, some ⟨wr.heap.size, 0, none⟩, 1, 1⟩, rfl, R1.out, R2.out⟩
            · have ekl0 : (e.lo == 0) = false := by rw [beq_eq_false_iff_ne]; exact hkl0
              have Hkl0 := Lib.hid hkl0
              clear hkl0
              have Q8 : TB ((set8 wr (w.heap.size + 1 + 1) (.int .i64 8) (.int .u64 0) (.int .u64 0) (.int .u64 0) (.int .u64 0) (.int .i64 d.lo) (.int .i64 d.hi) (.slice (some ⟨wr.heap.size, 0, none⟩) 1 1)).alloc (.cells e.cells 29)) (w.heap.size + 1 + 1) ⟨8, fun _ => 0#64, d.lo, d.hi, some ⟨wr.heap.size, 0, none⟩, 1, 1⟩ := (T3.out.to8 ⟨8, fun _ => 0#64, d.lo, d.hi, some ⟨wr.heap.size, 0, none⟩, 1, 1⟩).alloc _
              have VE : TV ((set8 wr (w.heap.size + 1 + 1) (.int .i64 8) (.int .u64 0) (.int .u64 0) (.int .u64 0) (.int .u64 0) (.int .i64 d.lo) (.int .i64 d.hi) (.slice (some ⟨wr.heap.size, 0, none⟩) 1 1)).alloc (.cells e.cells 29)) (fun j => S j ∨ (w.heap.size ≤ j ∧ j < ((set8 wr (w.heap.size + 1 + 1) (.int .i64 8) (.int .u64 0) (.int .u64 0) (.int .u64 0) (.int .u64 0) (.int .i64 d.lo) (.int .i64 d.hi) (.slice (some ⟨wr.heap.size, 0, none⟩) 1 1)).alloc (.cells e.cells 29)).heap.size)) k e := V.out _ fun j hj => ((below_new _ _).block j (by rw [set8_size]; omega)).trans ((set8_heap _ _ _ _ _ _ _ _ _ _ _ (by omega)).trans (B3.out.block j hj))
              have R1 := one_row _ S w.heap.size f d.lo d.hi k e HF.out VE (by rw [set8_size]; omega)
              rw [set8_size] at R1
              have R2 : Below w.heap.size w ((set8 wr (w.heap.size + 1 + 1) (.int .i64 8) (.int .u64 0) (.int .u64 0) (.int .u64 0) (.int .u64 0) (.int .i64 d.lo) (.int .i64 d.hi) (.slice (some ⟨wr.heap.size, 0, none⟩) 1 1)).alloc (.cells e.cells 29)) := (bel8 B3.out (by omega) _ _ _ _ _ _ _ _).trans ((below_new _ _).mono (by rw [set8_size]; omega))
              have s0 : ((set8 wr (w.heap.size + 1 + 1) (.int .i64 8) (.int .u64 0) (.int .u64 0) (.int .u64 0) (.int .u64 0) (.int .i64 d.lo) (.int .i64 d.hi) (.slice (some ⟨wr.heap.size, 0, none⟩) 1 1)).alloc (.cells e.cells 29)).cell? ⟨w.heap.size + 1 + 1, 0, none⟩ = some (.int .i64 8) := Q8.all.1.1
              have s1 : ((set8 wr (w.heap.size + 1 + 1) (.int .i64 8) (.int .u64 0) (.int .u64 0) (.int .u64 0) (.int .u64 0) (.int .i64 d.lo) (.int .i64 d.hi) (.slice (some ⟨wr.heap.size, 0, none⟩) 1 1)).alloc (.cells e.cells 29)).cell? ⟨w.heap.size + 1 + 1, 1, none⟩ = some (.int .u64 0) := Q8.all.1.2.1
              have s2 : ((set8 wr (w.heap.size + 1 + 1) (.int .i64 8) (.int .u64 0) (.int .u64 0) (.int .u64 0) (.int .u64 0) (.int .i64 d.lo) (.int .i64 d.hi) (.slice (some ⟨wr.heap.size, 0, none⟩) 1 1)).alloc (.cells e.cells 29)).cell? ⟨w.heap.size + 1 + 1, 2, none⟩ = some (.int .u64 0) := Q8.all.1.2.2.1
              have s3 : ((set8 wr (w.heap.size + 1 + 1) (.int .i64 8) (.int .u64 0) (.int .u64 0) (.int .u64 0) (.int .u64 0) (.int .i64 d.lo) (.int .i64 d.hi) (.slice (some ⟨wr.heap.size, 0, none⟩) 1 1)).alloc (.cells e.cells 29)).cell? ⟨w.heap.size + 1 + 1, 3, none⟩ = some (.int .u64 0) := Q8.all.1.2.2.2.1
              have s4 : ((set8 wr (w.heap.size + 1 + 1) (.int .i64 8) (.int .u64 0) (.int .u64 0) (.int .u64 0) (.int .u64 0) (.int .i64 d.lo) (.int .i64 d.hi) (.slice (some ⟨wr.heap.size, 0, none⟩) 1 1)).alloc (.cells e.cells 29)).cell? ⟨w.heap.size + 1 + 1, 4, none⟩ = some (.int .u64 0) := Q8.all.1.2.2.2.2.1
              have s5 : ((set8 wr (w.heap.size + 1 + 1) (.int .i64 8) (.int .u64 0) (.int .u64 0) (.int .u64 0) (.int .u64 0) (.int .i64 d.lo) (.int .i64 d.hi) (.slice (some ⟨wr.heap.size, 0, none⟩) 1 1)).alloc (.cells e.cells 29)).cell? ⟨w.heap.size + 1 + 1, 5, none⟩ = some (.int .i64 d.lo) := Q8.all.1.2.2.2.2.2.1
              have s6 : ((set8 wr (w.heap.size + 1 + 1) (.int .i64 8) (.int .u64 0) (.int .u64 0) (.int .u64 0) (.int .u64 0) (.int .i64 d.lo) (.int .i64 d.hi) (.slice (some ⟨wr.heap.size, 0, none⟩) 1 1)).alloc (.cells e.cells 29)).cell? ⟨w.heap.size + 1 + 1, 6, none⟩ = some (.int .i64 d.hi) := Q8.all.1.2.2.2.2.2.2.1
              have s7 : ((set8 wr (w.heap.size + 1 + 1) (.int .i64 8) (.int .u64 0) (.int .u64 0) (.int .u64 0) (.int .u64 0) (.int .i64 d.lo) (.int .i64 d.hi) (.slice (some ⟨wr.heap.size, 0, none⟩) 1 1)).alloc (.cells e.cells 29)).cell? ⟨w.heap.size + 1 + 1, 7, none⟩ = some (.slice (some ⟨wr.heap.size, 0, none⟩) 1 1) := Q8.all.1.2.2.2.2.2.2.2
              have R1 := Lib.hid R1; have R2 := Lib.hid R2
              unfold set8 TD.cells at s0 s1 s2 s3 s4 s5 s6 s7
              clear Q8 VE L V
              go_wp2
              refine bodyPost_ret (v := .agg #[.int .i64 8, .int .u64 0, .int .u64 0, .int .u64 0, .int .u64 0, .int .i64 d.lo, .int .i64 d.hi, .slice (some ⟨wr.heap.size, 0, none⟩) 1 1]) ?_ rfl ?_
              · simp [results, Try.results47, go_sem, s0, s1, s2, s3, s4, s5, s6, s7]
              · have hR : sRep f d.lo d.hi k = .mk 8 f d.lo d.hi [k] := by unfold sRep; simp [isStar_eq, ← HKO.out, ← HLO.out, ← HHI.out, Hhi0.out, Hk1.out, Hk9.out, Hlo1.out, Hk8.out, Hkl0.out]
                rw [hR]
                exact ⟨⟨8, fun _ => 0#64, d.lo, d.hi, some ⟨wr.heap.size, 0, none⟩, 1, 1⟩, rfl, R1.out, R2.out⟩
          · have ek8 : (e.op == 8) = false := by rw [beq_eq_false_iff_ne]; exact hk8
            have Hk8 := Lib.hid hk8
            clear hk8
            have Q8 : TB ((set8 wr (w.heap.size + 1 + 1) (.int .i64 8) (.int .u64 0) (.int .u64 0) (.int .u64 0) (.int .u64 0) (.int .i64 d.lo) (.int .i64 d.hi) (.slice (some ⟨wr.heap.size, 0, none⟩) 1 1)).alloc (.cells e.cells 29)) (w.heap.size + 1 + 1) ⟨8, fun _ => 0#64, d.lo, d.hi, some ⟨wr.heap.size, 0, none⟩, 1, 1⟩ := (T3.out.to8 ⟨8, fun _ => 0#64, d.lo, d.hi, some ⟨wr.heap.size, 0, none⟩, 1, 1⟩).alloc _
            have VE : TV ((set8 wr (w.heap.size + 1 + 1) (.int .i64 8) (.int .u64 0) (.int .u64 0) (.int .u64 0) (.int .u64 0) (.int .i64 d.lo) (.int .i64 d.hi) (.slice (some ⟨wr.heap.size, 0, none⟩) 1 1)).alloc (.cells e.cells 29)) (fun j => S j ∨ (w.heap.size ≤ j ∧ j < ((set8 wr (w.heap.size + 1 + 1) (.int .i64 8) (.int .u64 0) (.int .u64 0) (.int .u64 0) (.int .u64 0) (.int .i64 d.lo) (.int .i64 d.hi) (.slice (some ⟨wr.heap.size, 0, none⟩) 1 1)).alloc (.cells e.cells 29)).heap.size)) k e := V.out _ fun j hj => ((below_new _ _).block j (by rw [set8_size]; omega)).trans ((set8_heap _ _ _ _ _ _ _ _ _ _ _ (by omega)).trans (B3.out.block j hj))
            have R1 := one_row _ S w.heap.size f d.lo d.hi k e HF.out VE (by rw [set8_size]; omega)
            rw [set8_size] at R1
            have R2 : Below w.heap.size w ((set8 wr (w.heap.size + 1 + 1) (.int .i64 8) (.int .u64 0) (.int .u64 0) (.int .u64 0) (.int .u64 0) (.int .i64 d.lo) (.int .i64 d.hi) (.slice (some ⟨wr.heap.size, 0, none⟩) 1 1)).alloc (.cells e.cells 29)) := (bel8 B3.out (by omega) _ _ _ _ _ _ _ _).trans ((below_new _ _).mono (by rw [set8_size]; omega))
            have s0 : ((set8 wr (w.heap.size + 1 + 1) (.int .i64 8) (.int .u64 0) (.int .u64 0) (.int .u64 0) (.int .u64 0) (.int .i64 d.lo) (.int .i64 d.hi) (.slice (some ⟨wr.heap.size, 0, none⟩) 1 1)).alloc (.cells e.cells 29)).cell? ⟨w.heap.size + 1 + 1, 0, none⟩ = some (.int .i64 8) := Q8.all.1.1
            have s1 : ((set8 wr (w.heap.size + 1 + 1) (.int .i64 8) (.int .u64 0) (.int .u64 0) (.int .u64 0) (.int .u64 0) (.int .i64 d.lo) (.int .i64 d.hi) (.slice (some ⟨wr.heap.size, 0, none⟩) 1 1)).alloc (.cells e.cells 29)).cell? ⟨w.heap.size + 1 + 1, 1, none⟩ = some (.int .u64 0) := Q8.all.1.2.1
            have s2 : ((set8 wr (w.heap.size + 1 + 1) (.int .i64 8) (.int .u64 0) (.int .u64 0) (.int .u64 0) (.int .u64 0) (.int .i64 d.lo) (.int .i64 d.hi) (.slice (some ⟨wr.heap.size, 0, none⟩) 1 1)).alloc (.cells e.cells 29)).cell? ⟨w.heap.size + 1 + 1, 2, none⟩ = some (.int .u64 0) := Q8.all.1.2.2.1
            have s3 : ((set8 wr (w.heap.size + 1 + 1) (.int .i64 8) (.int .u64 0) (.int .u64 0) (.int .u64 0) (.int .u64 0) (.int .i64 d.lo) (.int .i64 d.hi) (.slice (some ⟨wr.heap.size, 0, none⟩) 1 1)).alloc (.cells e.cells 29)).cell? ⟨w.heap.size + 1 + 1, 3, none⟩ = some (.int .u64 0) := Q8.all.1.2.2.2.1
            have s4 : ((set8 wr (w.heap.size + 1 + 1) (.int .i64 8) (.int .u64 0) (.int .u64 0) (.int .u64 0) (.int .u64 0) (.int .i64 d.lo) (.int .i64 d.hi) (.slice (some ⟨wr.heap.size, 0, none⟩) 1 1)).alloc (.cells e.cells 29)).cell? ⟨w.heap.size + 1 + 1, 4, none⟩ = some (.int .u64 0) := Q8.all.1.2.2.2.2.1
            have s5 : ((set8 wr (w.heap.size + 1 + 1) (.int .i64 8) (.int .u64 0) (.int .u64 0) (.int .u64 0) (.int .u64 0) (.int .i64 d.lo) (.int .i64 d.hi) (.slice (some ⟨wr.heap.size, 0, none⟩) 1 1)).alloc (.cells e.cells 29)).cell? ⟨w.heap.size + 1 + 1, 5, none⟩ = some (.int .i64 d.lo) := Q8.all.1.2.2.2.2.2.1
            have s6 : ((set8 wr (w.heap.size + 1 + 1) (.int .i64 8) (.int .u64 0) (.int .u64 0) (.int .u64 0) (.int .u64 0) (.int .i64 d.lo) (.int .i64 d.hi) (.slice (some ⟨wr.heap.size, 0, none⟩) 1 1)).alloc (.cells e.cells 29)).cell? ⟨w.heap.size + 1 + 1, 6, none⟩ = some (.int .i64 d.hi) := Q8.all.1.2.2.2.2.2.2.1
            have s7 : ((set8 wr (w.heap.size + 1 + 1) (.int .i64 8) (.int .u64 0) (.int .u64 0) (.int .u64 0) (.int .u64 0) (.int .i64 d.lo) (.int .i64 d.hi) (.slice (some ⟨wr.heap.size, 0, none⟩) 1 1)).alloc (.cells e.cells 29)).cell? ⟨w.heap.size + 1 + 1, 7, none⟩ = some (.slice (some ⟨wr.heap.size, 0, none⟩) 1 1) := Q8.all.1.2.2.2.2.2.2.2
            have R1 := Lib.hid R1; have R2 := Lib.hid R2
            unfold set8 TD.cells at s0 s1 s2 s3 s4 s5 s6 s7
            clear Q8 VE L V
            go_wp2
            refine bodyPost_ret (v := .agg #[.int .i64 8, .int .u64 0, .int .u64 0, .int .u64 0, .int .u64 0, .int .i64 d.lo, .int .i64 d.hi, .slice (some ⟨wr.heap.size, 0, none⟩) 1 1]) ?_ rfl ?_
            · simp [results, Try.results47, go_sem, s0, s1, s2, s3, s4, s5, s6, s7]
            · have hR : sRep f d.lo d.hi k = .mk 8 f d.lo d.hi [k] := by unfold sRep; simp [isStar_eq, ← HKO.out, ← HLO.out, ← HHI.out, Hhi0.out, Hk1.out, Hk9.out, Hlo1.out, Hk8.out]
              rw [hR]
              exact ⟨⟨8, fun _ => 0#64, d.lo, d.hi, some ⟨wr.heap.size, 0, none⟩, 1, 1⟩, rfl, R1.out, R2.out⟩
end Go.Proofs.Ytkljagffccommaa
