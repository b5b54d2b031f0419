/- Right. What was written is read as itself: pure. A form is longer than deep; terms that are the same have one form; what is read is right: pure. How deep a form goes, told byte by byte; forms of rows, kid by kid: pure. Terms as their flags mean them: pure. Right, by the document. Right, by the document. Right, by the document. Right, by the document. Right. -/
import Derived.Test.YtkljagffccommaaG26
namespace Go.Proofs.Ytkljagffccommaa
open Go.RowKit
/-- a right term -/
inductive Rt : Tm → Prop
  | mk (op : Int) (f : Nat → Bool) (lo hi : Int) (ks : List Tm) (h : (1 ≤ op ∧ op ≤ 8) ∧ (op < 6 → ks.length = 0) ∧ (op = 6 ∨ op = 7 → 2 ≤ ks.length) ∧ (op = 8 → ks.length = 1 ∧ 0 ≤ lo ∧ lo ≤ 200 ∧ -1 ≤ hi ∧ hi ≤ 200 ∧ (0 ≤ hi → lo ≤ hi))) (hk : ∀ k ∈ ks, Rt k) : Rt (.mk op f lo hi ks)
/-- some answer; yes only of a right term -/
def Rgt (w : World) (t : Tm) (e : Ending) (w' : World) : Prop := ∃ b : Bool, e = .returned (.bool b) ∧ (b = true → Rt t) ∧ Below w.heap.size w w'
set_option maxRecDepth 100000 in
set_option maxHeartbeats 8000000 in
theorem right_8 (op : Int) (h8 : op = 8) (f : Nat → Bool) (lo hi : Int) (ks : List Tm) (d : TD) (w : World) (ht : TR w (.mk op f lo hi ks) d) (ih : ∀ k ∈ ks, ∀ (d : TD) (w : World), TR w k d → Calls Try.prog 36 #[d.val] w (Rgt w k)) : Calls Try.prog 36 #[d.val] w (Rgt w (.mk op f lo hi ks)) := by
  cases ht with
  | mk _ _ _ _ _ q A c ds hq hl hn hk hr =>
  obtain ⟨n, hnn⟩ : ∃ n, ks.length = n := ⟨_, rfl⟩
  rw [hnn] at hn ⊢
  have HE : ∀ W : World, (Op.equalIn 10000 26 (.agg #[.int .u64 (uv (q 0)), .int .u64 (uv (q 1)), .int .u64 (uv (q 2)), .int .u64 (uv (q 3))]) (.agg #[.int .u64 0, .int .u64 0, .int .u64 0, .int .u64 0])).run Try.prog W = .ok (eqK f noB) W := fun W => eqk_is hq isK_zero W
  have HOK : Hid ((1 ≤ op ∧ op ≤ 8) → (op < 6 → n = 0) → (op = 6 ∨ op = 7 → 2 ≤ n) → (op = 8 → n = 1 ∧ 0 ≤ lo ∧ lo ≤ 200 ∧ -1 ≤ hi ∧ hi ≤ 200 ∧ (0 ≤ hi → lo ≤ hi)) → (∀ k ∈ ks, Rt k) → Rt (.mk op f lo hi ks)) := fun a1 a2 a3 a4 b => .mk _ _ _ _ _ (by rw [hnn]; exact ⟨a1, a2, a3, a4⟩) b
  generalize eqK f noB = z at HE
  have IH := Lib.hid ih; have HK := Lib.hid hk; have HR := Lib.hid hr; have HL := Lib.hid hl; have HN := Lib.hid hnn
  have B1 := Lib.hid (below_new w (.cells #[.int .i64 op, .int .u64 (uv (q 0)), .int .u64 (uv (q 1)), .int .u64 (uv (q 2)), .int .u64 (uv (q 3)), .int .i64 lo, .int .i64 hi, .slice A n c] 29))
  obtain ⟨⟨x0, x1, x2, x3, x4, x5, x6, x7⟩, _⟩ := (TB.new w ⟨op, q, lo, hi, A, n, c⟩).all
  clear ih hk hr hl hnn hq
  unfold TD.val
  subst h8
  by_cases qn : (n : Int) = 1
  case neg =>
    cases z
    all_goals
      go_enter Try.func36, Try.ntmps36
      go_wp2
      all_goals (go_ret; exact ⟨false, rfl, (fun h => by cases h), B1.out⟩)
  cases z
  all_goals
    go_enter Try.func36, Try.ntmps36
    go_wp2_with fail
    all_goals (try (go_ret; exact ⟨false, rfl, (fun h => by cases h), B1.out⟩))
  all_goals
    have HO2 := Lib.hid (HOK.out ⟨by omega, by omega⟩ (fun _ => by omega) (fun _ => by omega) (fun _ => by omega))
    go_loopw [4] (fun v wr => ∃ (i : Nat), i ≤ n ∧ v = .int .i64 (i : Nat) ∧ Hid (∀ (j : Nat) (k : Tm), j < i → ks[j]? = some k → Rt k) ∧ Hid (wr.cell? ⟨w.heap.size, 7, none⟩ = some (.slice A n c) ∧ w.heap.size < wr.heap.size ∧ Below w.heap.size w wr)) (fun v _ => n - (intOf v).toNat)
    case atStart => exact ⟨0, Nat.zero_le _, rfl, Lib.hid (fun j k hj => by omega), Lib.hid ⟨x7, by simp, B1.out⟩⟩
    case round =>
      obtain ⟨i, hi1, rfl, hZ, hW⟩ := hrel
      clear x0 x1 x2 x3 x4 x5 x6 x7 B1 HE HOK
      by_cases hlt : i < n
      · have qi : (i : Int) < (n : Int) := by omega
        have hi2 : i < ks.length := by have := HN.out; omega
        have hi4 : i < ds.length := by have h1 := HL.out; omega
        obtain ⟨kb1, off1, rfl, hb1, hc1⟩ := HR.out (by omega)
        obtain ⟨a0, a1, a2, a3, a4, a5, a6, a7⟩ := kid_cells hW.out.2.2 hb1 hc1 (List.getElem?_eq_getElem hi4)
        have k1 := (HK.out i _ _ (List.getElem?_eq_getElem hi2) (List.getElem?_eq_getElem hi4)).keeps hW.out.2.2
        have tk : Hid (∀ k, ks[i]? = some k → k = ks[i]) := Lib.hid (fun k hk => by rw [List.getElem?_eq_getElem hi2] at hk; cases hk; rfl)
        have hm := List.getElem_mem hi2
        generalize ks[i] = kt at *
        generalize ds[i] = dt at *
        have D1 := Lib.hid (IH.out kt hm dt _ k1)
        have kbl : kb1 < wr.heap.size := Nat.lt_of_lt_of_le hb1 hW.out.2.2.size
        have q6 : IntKind.i64.wrap ((i : Int) + 1) = ((i + 1 : Nat) : Int) := by rw [IntWalk.i64_in _ (by omega)]; omega
        have c7 := hW.out.1
        have cl := hW.out.2.1
        clear hc1 k1 hi2 hi4 hb1 hm
        unfold TD.val at D1
        go_wp2_with fail
        refine D1.out.mono ?_
        rintro e w5 ⟨b, rfl, hokb, hb5⟩
        have OB := Lib.hid hokb
        have W5 : Hid (w5.cell? ⟨w.heap.size, 7, none⟩ = some (.slice (some ⟨kb1, off1, none⟩) n c) ∧ w.heap.size < w5.heap.size ∧ Below w.heap.size w w5) := ⟨(hb5.cell (p := ⟨w.heap.size, 7, none⟩) cl).trans c7, Nat.lt_of_lt_of_le cl hb5.size, hW.out.2.2.trans (hb5.mono hW.out.2.2.size)⟩
        clear D1 hW hb5 hokb a0 a1 a2 a3 a4 a5 a6 a7 kbl c7 cl
        cases b
        · go_wp2
          go_ret
          exact ⟨false, rfl, (fun h => by cases h), W5.out.2.2⟩
        · have Z2 : Hid (∀ (j : Nat) (k : Tm), j < i + 1 → ks[j]? = some k → Rt k) := Lib.hid (fun j k hj hk => by
            rcases Nat.lt_or_ge j i with h | h
            · exact hZ.out j k h hk
            · have : j = i := by omega
              subst this
              rw [tk.out k hk]
              exact OB.out rfl)
          clear hZ tk OB
          go_wp2_with fail
          go_roundw
          case rel => exact ⟨i + 1, by omega, by simp, Z2, W5⟩
          case measure => simp [intOf]; omega
      · have qi : ¬ (i : Int) < (n : Int) := by omega
        have hin : i = n := by omega
        have Z2 := Lib.hid (HO2.out (fun k hk => by
          obtain ⟨j, hj⟩ := List.getElem?_of_mem hk
          obtain ⟨hj2, _⟩ := List.getElem?_eq_some_iff.mp hj
          exact hZ.out j k (by have := HN.out; omega) hj))
        clear hZ HO2
        go_wp2
        go_ret
        exact ⟨true, rfl, fun _ => Z2.out, hW.out.2.2⟩
end Go.Proofs.Ytkljagffccommaa
namespace Go.Proofs.Ytkljagffccommaa
open Go.RowKit
section
variable {bs : List Nat} {s : St} {m : Nat}
theorem okc_stop {c : Nat} (h : okc c) {i : Nat} (h1 : i < bs.length) (h2 : bn bs i = c) : ¬ (i = bs.length ∨ sb bs i 124 = true ∨ sb bs i 41 = true) := by
  unfold okc at h
  rintro (e | e | e)
  · omega
  · have := (sb_is e).2; omega
  · have := (sb_is e).2; omega
theorem okc_q {c : Nat} (h : okc c) {i : Nat} (h2 : bn bs i = c) : noQ bs i := fun b hb => sbF (by unfold okc at h; omega)
theorem catL_stop (rec : St → Except Nat (Tm × St)) {n : Nat} {ts : List Tm} (h : endC bs s.i) : catL rec bs (n + 1) ts s = .ok (ts, s) := by rw [catL]; exact if_pos h
/-- terms one behind the other -/
theorem catL_reads : ∀ (ks : List Tm) (_ : ∀ k ∈ ks, Rds k ∧ rightT k = true) (s : St) (n : Nat) (ts : List Tm) (b : Bool), Lay bs s.i (formL 6 ks b) → s.op + depL 6 ks ≤ 30 → depL 6 ks ≤ m → endC bs (s.i + (formL 6 ks b).length) → ks.length < n →
    ∃ ts', catL (altF bs m) bs n ts s = .ok (ts ++ ts', s.to (s.i + (formL 6 ks b).length)) ∧ sameL ts' ks = true
  | [], _, s, n, ts, b, hL, ho, hm, he, hn => by
    obtain ⟨n, rfl⟩ : ∃ k, n = k + 1 := ⟨n - 1, by simp at hn; omega⟩
    refine ⟨[], ?_, by simp [sameL]⟩
    rw [formL] at he ⊢
    rw [catL_stop (altF bs m) (s := s) he, List.append_nil]
    rfl
  | k :: r, hk, s, n, ts, b, hL, ho, hm, he, hn => by
    obtain ⟨n, rfl⟩ : ∃ k, n = k + 1 := ⟨n - 1, by simp at hn; omega⟩
    have e0 : formL 6 (k :: r) b = kidF 6 k ++ formL 6 r false := by rw [formL_cons, if_neg (by omega)]; rfl
    rw [e0] at hL he ⊢
    rw [depL_cons] at ho hm
    obtain ⟨l1, l2⟩ := hL.app
    obtain ⟨c, x, ec, hc⟩ := kid_okc 6 (.inl rfl) k (hk k (by simp)).2
    have l1' := l1
    rw [ec] at l1'
    have a := l1'.cons
    have hq : noQ bs (s.i + (kidF 6 k).length) := by
      rcases r with _ | ⟨k2, r⟩
      · have : formL 6 [] false = [] := rfl
        rw [this, List.append_nil] at he
        exact he.q
      · obtain ⟨c2, x2, ec2, hc2⟩ := kid_okc 6 (.inl rfl) k2 (hk k2 (by simp)).2
        have e1 : formL 6 (k2 :: r) false = kidF 6 k2 ++ formL 6 r false := by rw [formL_cons, if_neg (by omega)]; rfl
        rw [e1, ec2] at l2
        exact okc_q hc2 (show Lay bs (s.i + (kidF 6 k).length) (c2 :: (x2 ++ formL 6 r false)) from l2).cons.2.1
    obtain ⟨t', h1, h2⟩ := kid_rep (m := m) rfl (hk k (by simp)).1 (hk k (by simp)).2 l1 (by omega) (by omega) hq
    obtain ⟨ts', h3, h4⟩ := catL_reads r (fun x hx => hk x (by simp [hx])) (s.to (s.i + (kidF 6 k).length)) n (ts ++ [t']) false l2 (by show s.op + depL 6 r ≤ 30; omega) (by omega) (by rw [List.length_append, ← Nat.add_assoc] at he; exact he) (by simp at hn; omega)
    refine ⟨t' :: ts', ?_, by rw [sameL, h2, h4]; rfl⟩
    rw [catL, if_neg (okc_stop hc a.1 a.2.1), h1, thn_ok, h3, List.append_assoc]
    exact to_eq _ s (by show s.i + (kidF 6 k).length + (formL 6 r false).length = _; rw [List.length_append]; omega)
/-- a kid of a choice -/
theorem kid_cat {k : Tm} (hk : Rds k) (_ : rightT k = true) (hL : Lay bs s.i (kidF 7 k)) (ho : s.op + kidD 7 k ≤ 30) (hm : kidD 7 k ≤ m) (he : endC bs (s.i + (kidF 7 k).length)) : ∃ t', catF (altF bs m) bs s = .ok (t', s.to (s.i + (kidF 7 k).length)) ∧ sameT t' k = true := by
  unfold kidF kidD at *
  cases hn : needs 7 (opOf k) with
  | true =>
    rw [hn, if_pos rfl] at hL he
    rw [hn] at ho hm
    rw [if_pos rfl]
    obtain ⟨t', h1, h2⟩ := group_reads hk hL (by simpa using ho) (by simpa using hm)
    have a := hL.cons
    have hle := hL.le
    refine ⟨t', ?_, h2⟩
    obtain ⟨n, hnn⟩ : ∃ n, bs.length = n + 1 := ⟨bs.length - 1, by omega⟩
    have hrep : repF (altF bs m) bs s = .ok (t', s.to (s.i + (40 :: (formT k ++ [41])).length)) := by
      unfold repF
      rw [h1, thn_ok, quant_none bs (s.to (s.i + (40 :: (formT k ++ [41])).length)) he.q, thn_ok]
      rfl
    unfold catF
    rw [hnn, catL, if_neg (okc_stop (show okc 40 by unfold okc; omega) a.1 a.2.1), hrep, thn_ok, catL_stop (altF bs m) (s := s.to (s.i + (40 :: (formT k ++ [41])).length)) he, thn_ok]
    rfl
  | false =>
    rw [hn, if_neg (by simp)] at hL he
    rw [hn] at ho hm
    rw [if_neg (by simp)]
    exact hk.C (needs_no hn).1 bs s m hL (by simpa using ho) (by simpa using hm) he
/-- further kids of a choice, each behind a bar -/
theorem altL_reads : ∀ (ks : List Tm) (_ : ∀ k ∈ ks, Rds k ∧ rightT k = true) (s : St) (n : Nat) (ts : List Tm), Lay bs s.i (formL 7 ks false) → s.op + depL 7 ks ≤ 30 → depL 7 ks ≤ m → endA bs (s.i + (formL 7 ks false).length) → ks.length < n →
    ∃ ts', altL (altF bs m) bs n ts s = .ok (ts ++ ts', s.to (s.i + (formL 7 ks false).length)) ∧ sameL ts' ks = true
  | [], _, s, n, ts, hL, ho, hm, he, hn => by
    obtain ⟨n, rfl⟩ : ∃ k, n = k + 1 := ⟨n - 1, by simp at hn; omega⟩
    refine ⟨[], ?_, by simp [sameL]⟩
    rw [formL] at he ⊢
    rw [altL, if_neg (by rw [show sb bs s.i 124 = false from he.bar]; simp), List.append_nil]
    rfl
  | k :: r, hk, s, n, ts, hL, ho, hm, he, hn => by
    obtain ⟨n, rfl⟩ : ∃ k, n = k + 1 := ⟨n - 1, by simp at hn; omega⟩
    have e0 : formL 7 (k :: r) false = 124 :: (kidF 7 k ++ formL 7 r false) := by rw [formL_cons, if_pos ⟨rfl, rfl⟩]; rfl
    rw [e0] at hL he ⊢
    rw [depL_cons] at ho hm
    obtain ⟨c1, c2, c3⟩ := hL.cons
    obtain ⟨l1, l2⟩ := c3.app
    have he2 : endC bs (s.i + 1 + (kidF 7 k).length) := by
      rcases r with _ | ⟨k2, r⟩
      · have : formL 7 [] false = [] := rfl
        rw [this, List.append_nil, List.length_cons] at he
        rw [show s.i + 1 + (kidF 7 k).length = s.i + ((kidF 7 k).length + 1) by omega]
        exact he.c
      · have e1 : formL 7 (k2 :: r) false = 124 :: (kidF 7 k2 ++ formL 7 r false) := by rw [formL_cons, if_pos ⟨rfl, rfl⟩]; rfl
        rw [e1] at l2
        have b := l2.cons
        exact .inr (.inl (sbT b.1 b.2.1))
    obtain ⟨t', h1, h2⟩ := kid_cat (s := s.nx) (m := m) (hk k (by simp)).1 (hk k (by simp)).2 l1 (by show s.op + kidD 7 k ≤ 30; omega) (by omega) he2
    obtain ⟨ts', h3, h4⟩ := altL_reads r (fun x hx => hk x (by simp [hx])) (s.to (s.i + 1 + (kidF 7 k).length)) n (ts ++ [t']) l2 (by show s.op + depL 7 r ≤ 30; omega) (by omega) (by rw [List.length_cons, List.length_append] at he; rw [show (s.to (s.i + 1 + (kidF 7 k).length)).i + (formL 7 r false).length = s.i + ((kidF 7 k).length + (formL 7 r false).length + 1) by show s.i + 1 + _ + _ = _; omega]; exact he) (by simp at hn; omega)
    refine ⟨t' :: ts', ?_, by rw [sameL, h2, h4]; rfl⟩
    rw [altL, if_pos (sbT c1 c2), h1, thn_ok]
    show altL (altF bs m) bs n (ts ++ [t']) (s.to (s.i + 1 + (kidF 7 k).length)) = _
    rw [h3, List.append_assoc]
    exact to_eq _ s (by show s.i + 1 + (kidF 7 k).length + (formL 7 r false).length = _; rw [List.length_cons, List.length_append]; omega)
/-- from a row to a choice of one -/
theorem alt_of_cat {t : Tm} (hC : ∀ (m : Nat), depT t ≤ m → ∃ t', catF (altF bs m) bs s = .ok (t', s.to (s.i + (formT t).length)) ∧ sameT t' t = true) (n : Nat) (hn : depT t < n) (he : endA bs (s.i + (formT t).length)) : ∃ t', altF bs n s = .ok (t', s.to (s.i + (formT t).length)) ∧ sameT t' t = true := by
  obtain ⟨n, rfl⟩ : ∃ k, n = k + 1 := ⟨n - 1, by omega⟩
  obtain ⟨t', h1, h2⟩ := hC n (by omega)
  refine ⟨t', ?_, h2⟩
  show altG (altF bs n) bs s = _
  unfold altG
  rw [h1, thn_ok, altL, if_neg (by rw [show sb bs (s.to (s.i + (formT t).length)).i 124 = false from he.bar]; simp), thn_ok]
  rfl
/-- from an atom with its quant to a row of one -/
theorem cat_of_rep {t : Tm} {c : Nat} {x : List Nat} (hf : formT t = c :: x) (hc : okc c) (hL : Lay bs s.i (formT t)) (hR : ∃ t', repF (altF bs m) bs s = .ok (t', s.to (s.i + (formT t).length)) ∧ sameT t' t = true) (he : endC bs (s.i + (formT t).length)) : ∃ t', catF (altF bs m) bs s = .ok (t', s.to (s.i + (formT t).length)) ∧ sameT t' t = true := by
  obtain ⟨t', h1, h2⟩ := hR
  have hL' := hL
  rw [hf] at hL'
  have a := hL'.cons
  obtain ⟨n, hnn⟩ : ∃ n, bs.length = n + 1 := ⟨bs.length - 1, by omega⟩
  refine ⟨t', ?_, h2⟩
  unfold catF
  rw [hnn, catL, if_neg (okc_stop hc a.1 a.2.1), h1, thn_ok, catL_stop (altF bs m) (s := s.to (s.i + (formT t).length)) he, thn_ok]
  rfl
end
theorem formL_len (p : Int) (hp : p = 6) : ∀ (ks : List Tm) (b : Bool), (∀ k ∈ ks, rightT k = true) → ks.length ≤ (formL p ks b).length
  | [], b, _ => by simp
  | k :: r, b, h => by
    obtain ⟨c, x, e, _⟩ := kid_okc p (.inl hp) k (h k (by simp))
    have := formL_len p hp r false fun y hy => h y (by simp [hy])
    rw [formL_cons, e]
    simp only [List.length_append, List.length_cons]
    omega
theorem formL_len7 : ∀ (ks : List Tm), ks.length ≤ (formL 7 ks false).length
  | [] => by simp
  | k :: r => by
    have := formL_len7 r
    rw [formL_cons, if_pos ⟨rfl, rfl⟩]
    simp only [List.length_append, List.length_cons, List.length_nil]
    omega
theorem sameL_length : ∀ (a b : List Tm), sameL a b = true → a.length = b.length := fun a b h => by
  rcases Nat.lt_trichotomy a.length b.length with e | e | e
  · rw [sameL_len a b (by omega)] at h; cases h
  · exact e
  · rw [sameL_len a b (by omega)] at h; cases h
theorem catT_len : ∀ ts : List Tm, 2 ≤ ts.length → catT ts = .mk 6 noB 0 0 ts
  | [], h => by simp at h
  | [_], h => by simp at h
  | _ :: _ :: _, _ => rfl
theorem altT_len : ∀ ts : List Tm, 2 ≤ ts.length → altT ts = .mk 7 noB 0 0 ts
  | [], h => by simp at h
  | [_], h => by simp at h
  | _ :: _ :: _, _ => rfl
theorem reads_all (t : Tm) : rightT t = true → Rds t := by
  induction t using Tm.ind with
  | h op f lo hi ks ih =>
  intro hr
  have r := right_is hr
  have r1 := r.op1
  have r8 := r.op8
  have hk : ∀ k ∈ ks, Rds k ∧ rightT k = true := fun k h => ⟨ih k h (r.kids k h), r.kids k h⟩
  have hz : op ≠ 2 → eqK noB f = true := fun h => eqK_symm (r.set h)
  -- atoms with their quants
  have HR : (op ≠ 1 ∧ op ≠ 6 ∧ op ≠ 7) → ∀ (bs : List Nat) (s : St) (m : Nat), Lay bs s.i (formT (.mk op f lo hi ks)) → s.op + depT (.mk op f lo hi ks) ≤ 30 → depT (.mk op f lo hi ks) ≤ m → noQ bs (s.i + (formT (.mk op f lo hi ks)).length) → ∃ t', repF (altF bs m) bs s = .ok (t', s.to (s.i + (formT (.mk op f lo hi ks)).length)) ∧ sameT t' (.mk op f lo hi ks) = true := by
    intro hop bs s m hL ho hm hq
    by_cases e8 : op = 8
    · subst e8
      have hl := r.rep rfl
      obtain ⟨k, rfl⟩ : ∃ x, ks = [x] := by
        match ks, hl with
        | [x], _ => exact ⟨x, rfl⟩
      have ef : formT (.mk 8 f lo hi [k]) = kidF 8 k ++ quantOf lo hi := by
        rw [formT, if_neg (by omega), if_neg (by omega), if_neg (by omega), if_neg (by omega), if_pos (by omega), formL_cons, if_neg (by omega), if_pos rfl, formL]
        simp
      have ed : depT (.mk 8 f lo hi [k]) = kidD 8 k := by
        rw [depT, if_pos (by omega), depL_cons, depL]; simp
      rw [ef] at hL ⊢
      rw [ed] at ho hm
      obtain ⟨l1, l2⟩ := hL.app
      have hb := r.bnd rfl
      have hqr := quant_reads (s := s.to (s.i + (kidF 8 k).length)) lo hi hb l2
      have hat : ∃ t', atomF (altF bs m) bs s = .ok (t', s.to (s.i + (kidF 8 k).length)) ∧ sameT t' k = true := by
        unfold kidF kidD at *
        cases hn : needs 8 (opOf k) with
        | true =>
          rw [hn, if_pos rfl] at l1
          rw [hn] at ho hm
          rw [if_pos rfl]
          exact group_reads (hk k (by simp)).1 l1 (by simpa using ho) (by simpa using hm)
        | false =>
          rw [hn, if_neg (by simp)] at l1
          rw [if_neg (by simp)]
          have hkr := (hk k (by simp)).2
          obtain ⟨op', f', lo', hi', ks'⟩ := k
          have h' := needs_no hn
          have r' := right_is hkr
          have r1' := r'.op1
          have r8' := r'.op8
          have hop' : opOf (.mk op' f' lo' hi' ks') = op' := rfl
          rw [hop'] at h'
          exact leaf_atom _ r' (by omega) (by omega) l1
      obtain ⟨t', h1, h2⟩ := hat
      refine ⟨.mk 8 noB lo hi [t'], ?_, ?_⟩
      · unfold repF
        rw [h1, thn_ok, hqr, thn_ok]
        exact to_eq _ s (by show s.i + (kidF 8 k).length + (quantOf lo hi).length = _; rw [List.length_append]; omega)
      · rw [sameT_mk]
        exact ⟨rfl, hz (by omega), rfl, rfl, by rw [sameL, h2]; rfl⟩
    · obtain ⟨t', h1, h2⟩ := leaf_atom (altF bs m) r (by omega) (by omega) hL
      refine ⟨t', ?_, h2⟩
      unfold repF
      rw [h1, thn_ok, quant_none bs (s.to (s.i + (formT (.mk op f lo hi ks)).length)) hq, thn_ok]
      rfl
  -- rows
  have HC : op ≠ 7 → ∀ (bs : List Nat) (s : St) (m : Nat), Lay bs s.i (formT (.mk op f lo hi ks)) → s.op + depT (.mk op f lo hi ks) ≤ 30 → depT (.mk op f lo hi ks) ≤ m → endC bs (s.i + (formT (.mk op f lo hi ks)).length) → ∃ t', catF (altF bs m) bs s = .ok (t', s.to (s.i + (formT (.mk op f lo hi ks)).length)) ∧ sameT t' (.mk op f lo hi ks) = true := by
    intro h7 bs s m hL ho hm he
    by_cases e1 : op = 1
    · have ef : formT (.mk op f lo hi ks) = [] := by rw [formT, if_neg (by omega), if_neg (by omega), if_neg (by omega), if_neg (by omega), if_neg (by omega)]
      rw [ef] at he ⊢
      refine ⟨opT 1, ?_, by subst e1; exact leaf_same r (by omega) noB (hz (by omega))⟩
      unfold catF
      rw [catL_stop (altF bs m) (s := s) he, thn_ok]
      rfl
    · by_cases e6 : op = 6
      · subst e6
        have ef : formT (.mk 6 f lo hi ks) = formL 6 ks true := by
          rw [formT, if_neg (by omega), if_neg (by omega), if_neg (by omega), if_neg (by omega), if_pos (by omega), if_neg (by omega), List.append_nil]
        have ed : depT (.mk 6 f lo hi ks) = depL 6 ks := by rw [depT, if_pos (by omega)]
        rw [ef] at hL he ⊢
        rw [ed] at ho hm
        have hlen := formL_len 6 rfl ks true fun k h => (hk k h).2
        have hle := hL.le
        obtain ⟨ts', h1, h2⟩ := catL_reads (m := m) ks hk s (bs.length + 1) [] true hL ho hm he (by omega)
        have h2l := r.two (.inl rfl)
        have htl := sameL_length _ _ h2
        obtain ⟨rfl, rfl⟩ := r.num (by omega)
        refine ⟨.mk 6 noB 0 0 ts', ?_, ?_⟩
        · unfold catF
          rw [h1, thn_ok, List.nil_append, catT_len ts' (by omega)]
        · rw [sameT_mk]
          exact ⟨rfl, hz (by omega), rfl, rfl, h2⟩
      · have hfirst : ∃ c x, formT (.mk op f lo hi ks) = c :: x ∧ okc c := by
          obtain ⟨c, x, e, hc⟩ := kid_okc 6 (.inl rfl) (.mk op f lo hi ks) hr
          unfold kidF at e
          rw [if_neg (by
            have : opOf (.mk op f lo hi ks) = op := rfl
            rw [this]; unfold needs; simp; omega)] at e
          exact ⟨c, x, e, hc⟩
        obtain ⟨c, x, e, hc⟩ := hfirst
        exact cat_of_rep e hc hL (HR ⟨e1, e6, h7⟩ bs s m hL ho hm he.q) he
  refine ⟨fun bs s n hL ho hn he => ?_, HC, HR⟩
  by_cases h7 : op = 7
  · subst h7
    have ef : formT (.mk 7 f lo hi ks) = formL 7 ks true := by
      rw [formT, if_neg (by omega), if_neg (by omega), if_neg (by omega), if_neg (by omega), if_pos (by omega), if_neg (by omega), List.append_nil]
    have ed : depT (.mk 7 f lo hi ks) = depL 7 ks := by rw [depT, if_pos (by omega)]
    rw [ef] at hL he ⊢
    rw [ed] at ho hn
    have h2l := r.two (.inr rfl)
    obtain ⟨k, ks', rfl⟩ : ∃ x y, ks = x :: y := by
      match ks, h2l with
      | x :: y, _ => exact ⟨x, y, rfl⟩
    have e0 : formL 7 (k :: ks') true = kidF 7 k ++ formL 7 ks' false := by rw [formL_cons, if_neg (by simp)]; rfl
    rw [e0] at hL he ⊢
    rw [depL_cons] at ho hn
    obtain ⟨n, rfl⟩ : ∃ k, n = k + 1 := ⟨n - 1, by omega⟩
    obtain ⟨l1, l2⟩ := hL.app
    have he2 : endC bs (s.i + (kidF 7 k).length) := by
      rcases ks' with _ | ⟨k2, y⟩
      · simp at h2l
      · have e1 : formL 7 (k2 :: y) false = 124 :: (kidF 7 k2 ++ formL 7 y false) := by rw [formL_cons, if_pos ⟨rfl, rfl⟩]; rfl
        rw [e1] at l2
        have b := l2.cons
        exact .inr (.inl (sbT b.1 b.2.1))
    obtain ⟨t', h1, h2⟩ := kid_cat (m := n) (hk k (by simp)).1 (hk k (by simp)).2 l1 (by omega) (by omega) he2
    have hlen := formL_len7 ks'
    have hle := hL.le
    rw [List.length_append] at hle
    obtain ⟨ts', h3, h4⟩ := altL_reads (m := n) ks' (fun x hx => hk x (by simp [hx])) (s.to (s.i + (kidF 7 k).length)) (bs.length + 1) [t'] l2 (by show s.op + depL 7 ks' ≤ 30; omega) (by omega) (by rw [List.length_append, ← Nat.add_assoc] at he; exact he) (by omega)
    have htl := sameL_length _ _ h4
    obtain ⟨rfl, rfl⟩ := r.num (by omega)
    refine ⟨.mk 7 noB 0 0 (t' :: ts'), ?_, ?_⟩
    · show altG (altF bs n) bs s = _
      unfold altG
      rw [h1, thn_ok, h3, thn_ok, List.singleton_append, altT_len (t' :: ts') (by simp at h2l ⊢; omega)]
      exact to_eq _ s (by show s.i + (kidF 7 k).length + (formL 7 ks' false).length = _; rw [List.length_append]; omega)
    · rw [sameT_mk]
      exact ⟨rfl, hz (by omega), rfl, rfl, by rw [sameL, h2, h4]; rfl⟩
  · exact alt_of_cat (fun m hm => HC h7 bs s m hL ho hm he.c) n hn he
/-- what was written is read as itself, if it is not too long and not too deep -/
theorem form_back (t : Tm) (hr : rightT t = true) (hl : (formT t).length ≤ 200) (hd : depT t ≤ 30) (hn : depT t < (formT t).length + 1) : ∃ t', parseF (formT t) = (t', 0, 0) ∧ sameT t' t = true := by
  have hL : Lay (formT t) s0.i (formT t) := ⟨by show 0 + _ ≤ _; omega, fun j hj => by rw [show s0.i + j = j by show 0 + j = j; omega]⟩
  obtain ⟨t', h1, h2⟩ := (reads_all t hr).A (formT t) s0 ((formT t).length + 1) hL (by show 0 + depT t ≤ 30; omega) hn (.inl (by show 0 + _ = _; omega))
  refine ⟨t', ?_, h2⟩
  unfold parseF
  rw [if_neg (by omega), h1]
  show (if 0 + (formT t).length = (formT t).length then _ else _) = _
  rw [if_pos (by omega)]
  rfl
end Go.Proofs.Ytkljagffccommaa
namespace Go.Proofs.Ytkljagffccommaa
open Go.RowKit
mutual
theorem dep_le : ∀ t : Tm, depT t ≤ (formT t).length
  | .mk op f lo hi ks => by
    rw [depT, formT]
    by_cases h : op = 6 ∨ op = 7 ∨ op = 8
    · rw [if_pos h, if_neg (by omega), if_neg (by omega), if_neg (by omega), if_neg (by omega), if_pos h, List.length_append]
      have := depL_le op ks true
      omega
    · rw [if_neg h]; exact Nat.zero_le _
theorem depL_le (p : Int) : ∀ (ks : List Tm) (b : Bool), depL p ks ≤ (formL p ks b).length
  | [], b => by rw [depL]; exact Nat.zero_le _
  | k :: r, b => by
    have h1 := dep_le k
    have h2 := depL_le p r false
    rw [depL, formL, List.length_append, List.length_append]
    cases needs p (opOf k) with
    | true => simp only [if_true, List.length_cons, List.length_append, List.length_nil]; omega
    | false => simp only [Bool.false_eq_true, if_false]; omega
end
theorem bl_congr {f g : Nat → Bool} (h : eqK f g = true) : blF f = blF g := by
  unfold blF
  apply List.filter_congr
  intro i hi
  exact (eqK_iff f g).1 h i (List.mem_range.1 hi)
theorem set_congr {f g : Nat → Bool} (h : eqK f g = true) : setForm f = setForm g := by unfold setForm runsF; rw [bl_congr h]
theorem opOf_same : ∀ {a b : Tm}, sameT a b = true → opOf a = opOf b
  | .mk .., .mk .., h => ((sameT_mk ..).1 h).1
mutual
theorem form_same : ∀ (a b : Tm), sameT a b = true → formT a = formT b ∧ depT a = depT b
  | .mk op f lo hi ks, .mk op' f' lo' hi' ks', h => by
    obtain ⟨rfl, h1, rfl, rfl, h2⟩ := (sameT_mk ..).1 h
    obtain ⟨h3, h4⟩ := formL_same op ks ks' h2
    rw [formT, formT, depT, depT, set_congr h1, h3 true, h4]
    exact ⟨rfl, rfl⟩
theorem formL_same (p : Int) : ∀ (a b : List Tm), sameL a b = true → (∀ x, formL p a x = formL p b x) ∧ depL p a = depL p b
  | [], [], _ => ⟨fun _ => rfl, rfl⟩
  | [], _ :: _, h => by simp [sameL] at h
  | _ :: _, [], h => by simp [sameL] at h
  | x :: a, y :: b, h => by
    rw [sameL, Bool.and_eq_true] at h
    obtain ⟨h1, h2⟩ := form_same x y h.1
    obtain ⟨h3, h4⟩ := formL_same p a b h.2
    refine ⟨fun z => ?_, ?_⟩
    · rw [formL, formL, h1, opOf_same h.1, h3 false]
    · rw [depL, depL, h2, opOf_same h.1, h4]
end
/-- what a reading answers is right, if no quant was late; and it was not late already -/
def Rr {α : Type} (P : α → Prop) (s : St) (r : Except Nat (α × St)) : Prop := ∀ a s', r = .ok (a, s') → s'.rp = -1 → s.rp = -1 ∧ P a
theorem Rr.thn {α β : Type} {P : α → Prop} {Q : β → Prop} {s : St} {r : Except Nat (α × St)} {f : α → St → Except Nat (β × St)} (h : Rr P s r) (hf : ∀ a s', P a → Rr Q s' (f a s')) (hn : ∀ a s', ¬ P a → Rr (fun _ => True) s' (f a s')) : Rr Q s (thn r f) := by
  intro b s2 e hs
  cases r with
  | error p => cases e
  | ok x =>
    obtain ⟨a, s'⟩ := x
    have e' : f a s' = .ok (b, s2) := e
    by_cases hp : P a
    · obtain ⟨h1, h2⟩ := hf a s' hp b s2 e' hs
      exact ⟨(h a s' rfl h1).1, h2⟩
    · exact absurd (h a s' rfl ((hn a s' hp b s2 e' hs).1)).2 hp
theorem Rr.any {α : Type} {P : α → Prop} {s : St} {r : Except Nat (α × St)} (h : Rr P s r) : Rr (fun _ => True) s r := fun a s' e hs => ⟨(h a s' e hs).1, trivial⟩
theorem Rr.err {α : Type} {P : α → Prop} {s : St} {p : Nat} : Rr P s (.error p : Except Nat (α × St)) := fun a s' e _ => by cases e
theorem Rr.okk {α : Type} {P : α → Prop} {s s' : St} {a : α} (h : s'.rp = s.rp) (hp : P a) : Rr P s (.ok (a, s')) := fun b s2 e hs => by
  injection e with e; injection e with e1 e2; subst e1; subst e2
  exact ⟨by rw [← h]; exact hs, hp⟩
/-- a reading that keeps what was late -/
def Kp {α : Type} (s : St) (r : Except Nat (α × St)) : Prop := ∀ a s', r = .ok (a, s') → s'.rp = s.rp
theorem Kp.okk {α : Type} {s s' : St} {a : α} (h : s'.rp = s.rp) : Kp s (.ok (a, s')) := fun b s2 e => by injection e with e; injection e with _ e2; subst e2; exact h
theorem Kp.err {α : Type} {s : St} {p : Nat} : Kp s (.error p : Except Nat (α × St)) := fun a s' e => by cases e
theorem Kp.thn {α β : Type} {s : St} {r : Except Nat (α × St)} {f : α → St → Except Nat (β × St)} (h : Kp s r) (hf : ∀ a s', Kp s' (f a s')) : Kp s (thn r f) := by
  intro b s2 e
  cases r with
  | error p => cases e
  | ok x =>
    obtain ⟨a, s'⟩ := x
    exact (hf a s' b s2 e).trans (h a s' rfl)
theorem Kp.then_ {α β : Type} {Q : β → Prop} {s : St} {r : Except Nat (α × St)} {f : α → St → Except Nat (β × St)} (h : Kp s r) (hf : ∀ a s', Rr Q s' (f a s')) : Rr Q s (Ytkljagffccommaa.thn r f) := by
  intro b s2 e hs
  cases r with
  | error p => cases e
  | ok x =>
    obtain ⟨a, s'⟩ := x
    obtain ⟨h1, h2⟩ := hf a s' b s2 e hs
    exact ⟨by rw [← h a s' rfl]; exact h1, h2⟩
section
variable (bs : List Nat) (s : St)
theorem kp_must (b : Nat) : Kp s (mustF bs s b) := by unfold mustF; split; exact .okk rfl; exact .err
theorem kp_digit : Kp s (digitF bs s) := by unfold digitF; split; exact .okk rfl; exact .err
theorem kp_numL : ∀ (k n : Nat) (s : St), (numL bs k n s).2.rp = s.rp
  | 0, n, s => rfl
  | k + 1, n, s => by
    rw [numL]
    split
    · exact kp_numL k _ s.nx
    · rfl
theorem kp_number : Kp s (numberF bs s) := by
  unfold numberF
  exact (kp_digit bs s).thn fun n s1 => .okk (kp_numL bs 2 n s1)
theorem kp_upper (lo : Nat) : Kp s (upperF bs lo s) := by
  unfold upperF
  split
  · split
    · exact .okk rfl
    · exact Kp.thn (s := s) (fun a s' e => kp_number bs s.nx a s' e) fun a s' => .okk rfl
  · exact .okk rfl
theorem kp_hex : Kp s (hexF bs s) := by
  unfold hexF
  split
  · split
    · exact .okk rfl
    · exact .err
  · exact .err
theorem kp_escRest : Kp s (escRest bs s) := by
  unfold escRest escTail
  split
  · exact .okk rfl
  split
  · exact .okk rfl
  split
  · exact .okk rfl
  split
  · exact Kp.thn (s := s) (fun a s' e => kp_hex bs s.nx a s' e) fun a s' => (kp_hex bs s').thn fun b s2 => .okk rfl
  split
  · exact .okk rfl
  · exact .err
theorem kp_escaped : Kp s (escapedF bs s) := by unfold escapedF; exact (kp_must bs s 92).thn fun _ s1 => kp_escRest bs s1
theorem kp_take (xs : List Nat) : Kp s (takeButF bs s xs) := by unfold takeButF; split; exact .okk rfl; exact .err
theorem kp_end : Kp s (endF bs s) := by unfold endF; split; exact kp_escaped bs s; exact kp_take bs s _
theorem kp_letter : (letterF bs s).2.rp = s.rp := by
  unfold letterF
  split
  · split <;> rfl
  · rfl
theorem kp_escape : Kp s (escapeF bs s) := by
  unfold escapeF
  have h := kp_letter bs s
  split
  · rename_i f s' e; rw [e] at h; exact .okk h
  · exact (kp_escaped bs s).thn fun b s' => .okk rfl
theorem kp_item : Kp s (itemF bs s) := by
  unfold itemF
  have h := kp_letter bs s
  split
  · rename_i f s' e; rw [e] at h; exact .okk h
  · refine (kp_end bs s).thn fun a s1 => ?_
    split
    · exact Kp.thn (s := s1) (fun b s' e => kp_end bs s1.nx b s' e) fun b s2 => .okk rfl
    · exact .okk rfl
theorem kp_cls : ∀ (n : Nat) (f : Nat → Bool) (s : St), Kp s (clsL bs n f s)
  | 0, f, s => .err
  | n + 1, f, s => by
    rw [clsL]
    split
    · exact .okk rfl
    · exact (kp_item bs s).thn fun h s' => kp_cls n _ s'
theorem kp_class : Kp s (classF bs s) := by
  unfold classF
  refine (kp_must bs s 91).thn fun _ s1 => ?_
  refine Kp.thn (s := s1) (fun a s' e => ?_) fun f s3 => (kp_cls bs _ f s3).thn fun h s4 => .okk rfl
  have := kp_item bs _ a s' e
  rw [this]
  unfold nx?
  split <;> rfl
theorem rr_braces : Rr (fun p : Int × Int => bndOk p.1 p.2) s (bracesF bs s) := by
  unfold bracesF
  refine (kp_must bs s 123).then_ fun _ s1 => (kp_number bs s1).then_ fun lo s2 => ?_
  intro p s' e hs
  cases hu : upperF bs lo s2 with
  | error q => rw [hu] at e; cases e
  | ok x =>
    obtain ⟨hi, s4⟩ := x
    rw [hu, thn_ok] at e
    have k4 := kp_upper bs s2 lo hi s4 hu
    cases hm : mustF bs s4 125 with
    | error q => rw [hm] at e; cases e
    | ok y =>
      obtain ⟨u, s5⟩ := y
      rw [hm, thn_ok] at e
      have k5 := kp_must bs s4 125 u s5 hm
      injection e with e; injection e with e1 e2
      subst e1
      have hhi : -1 ≤ hi := by
        unfold upperF at hu
        split at hu
        · split at hu
          · injection hu with hu; injection hu with hu _; omega
          · cases hn : numberF bs s2.nx with
            | error q => rw [hn] at hu; cases hu
            | ok z =>
              obtain ⟨n, s6⟩ := z
              rw [hn, thn_ok] at hu
              injection hu with hu; injection hu with hu _; omega
        · injection hu with hu; injection hu with hu _; omega
      unfold lateF at e2
      by_cases hc : fitsF ((lo : Nat) : Int) hi = false ∧ s5.rp = -1
      · rw [if_pos hc] at e2
        subst e2
        have : ((s.i : Nat) : Int) = -1 := hs
        omega
      · rw [if_neg hc] at e2
        subst e2
        refine ⟨by rw [← k4, ← k5]; exact hs, ?_⟩
        have hf : fitsF ((lo : Nat) : Int) hi = true := by
          cases hq : fitsF ((lo : Nat) : Int) hi with
          | true => rfl
          | false => exact absurd ⟨hq, hs⟩ hc
        unfold fitsF at hf
        show bndOk (lo : Int) hi
        unfold bndOk
        split at hf
        · have := of_decide_eq_true hf; omega
        · have := of_decide_eq_true hf; omega
theorem rr_quant : Rr (fun p : Int × Int × Bool => p.2.2 = true → bndOk p.1 p.2.1) s (quantF bs s) := by
  unfold quantF
  split
  · exact .okk rfl fun _ => by unfold bndOk; simp
  split
  · exact .okk rfl fun _ => by unfold bndOk; simp
  split
  · exact .okk rfl fun _ => by unfold bndOk; simp
  split
  · exact (rr_braces bs s).thn (fun p s' hp => .okk rfl fun _ => hp) fun p s' _ => .okk rfl trivial
  · exact .okk rfl fun h => by cases h
end
theorem right_leaf (op : Int) (f : Nat → Bool) (h1 : 1 ≤ op) (h5 : op ≤ 5) (hf : op ≠ 2 → eqK f noB = true) : rightT (.mk op f 0 0 []) = true := by
  rw [rightT]
  simp only [Bool.and_eq_true, Bool.or_eq_true, decide_eq_true_iff]
  refine ⟨⟨h1, by omega⟩, ?_, .inr (by simp), ?_, .inl (by omega), rfl⟩
  · unfold kidsOk; rw [decide_eq_true_iff]; simp; omega
  · by_cases h : op = 2
    · exact .inl h
    · exact .inr (hf h)
theorem noB_noB : eqK noB noB = true := (eqK_iff _ _).2 fun _ _ => rfl
theorem rightL_iff : ∀ ks : List Tm, rightL ks = true ↔ ∀ k ∈ ks, rightT k = true
  | [] => by simp [rightL]
  | k :: r => by rw [rightL, Bool.and_eq_true, rightL_iff r]; simp
theorem right_row (op : Int) (h : op = 6 ∨ op = 7) (ks : List Tm) (h2 : 2 ≤ ks.length) (hk : ∀ k ∈ ks, rightT k = true) : rightT (.mk op noB 0 0 ks) = true := by
  rw [rightT]
  simp only [Bool.and_eq_true, Bool.or_eq_true, decide_eq_true_iff]
  refine ⟨⟨by omega, by omega⟩, ?_, .inr (by simp), .inr noB_noB, .inl (by omega), (rightL_iff ks).2 hk⟩
  unfold kidsOk; rw [decide_eq_true_iff]; omega
theorem right_rep (lo hi : Int) (hb : bndOk lo hi) (k : Tm) (hk : rightT k = true) : rightT (.mk 8 noB lo hi [k]) = true := by
  rw [rightT]
  simp only [Bool.and_eq_true, Bool.or_eq_true, decide_eq_true_iff]
  refine ⟨⟨by omega, by omega⟩, ?_, .inl (by simp), .inr noB_noB, .inr ?_, (rightL_iff _).2 fun x hx => by simp at hx; rw [hx]; exact hk⟩
  · unfold kidsOk; rw [decide_eq_true_iff]; simp
  · unfold bndB; rw [decide_eq_true_iff]; exact hb
def RT (t : Tm) : Prop := rightT t = true
theorem catT_right : ∀ ts : List Tm, (∀ t ∈ ts, RT t) → RT (catT ts)
  | [], _ => right_leaf 1 noB (by omega) (by omega) fun _ => noB_noB
  | [t], h => h t (by simp)
  | t :: u :: r, h => right_row 6 (.inl rfl) _ (by simp) h
theorem altT_right : ∀ ts : List Tm, 0 < ts.length → (∀ t ∈ ts, RT t) → RT (altT ts)
  | [], h, _ => by simp at h
  | [t], _, h => h t (by simp)
  | t :: u :: r, _, h => right_row 7 (.inr rfl) _ (by simp) h
section
variable {rec : St → Except Nat (Tm × St)} (hrec : ∀ s, Rr RT s (rec s)) (bs : List Nat)
include hrec
theorem rr_group (s : St) : Rr RT s (groupF rec bs s) := by
  unfold groupF
  have hd : (deepF s).rp = s.rp := by unfold deepF; split <;> rfl
  refine Kp.then_ (fun a s' e => (kp_must bs (deepF s) 40 a s' e).trans hd) fun _ s2 => (hrec s2).thn (fun t s3 ht => (kp_must bs s3 41).then_ fun _ s4 => .okk rfl ht) fun t s3 _ => (kp_must bs s3 41).then_ fun _ s4 => .okk rfl trivial
theorem rr_atom (s : St) : Rr RT s (atomF rec bs s) := by
  unfold atomF
  split
  · exact rr_group hrec bs s
  split
  · exact (kp_class bs s).then_ fun f s' => .okk rfl (right_leaf 2 f (by omega) (by omega) fun h => absurd rfl h)
  split
  · exact (kp_escape bs s).then_ fun f s' => .okk rfl (right_leaf 2 f (by omega) (by omega) fun h => absurd rfl h)
  split
  · exact .okk rfl (right_leaf 3 noB (by omega) (by omega) fun _ => noB_noB)
  split
  · exact .okk rfl (right_leaf 4 noB (by omega) (by omega) fun _ => noB_noB)
  split
  · exact .okk rfl (right_leaf 5 noB (by omega) (by omega) fun _ => noB_noB)
  · exact (kp_take bs s _).then_ fun b s' => .okk rfl (right_leaf 2 _ (by omega) (by omega) fun h => absurd rfl h)
theorem rr_rep (s : St) : Rr RT s (repF rec bs s) := by
  unfold repF
  refine (rr_atom hrec bs s).thn (fun t s1 ht => (rr_quant bs s1).thn (fun p s2 hp => .okk rfl ?_) fun p s2 _ => .okk rfl trivial) fun t s1 _ => (rr_quant bs s1).any.thn (fun p s2 _ => .okk rfl trivial) fun p s2 _ => .okk rfl trivial
  split
  · rename_i h; exact right_rep _ _ (hp h) t ht
  · exact ht
def RL (ts : List Tm) : Prop := ∀ t ∈ ts, RT t
theorem rr_catL : ∀ (n : Nat) (ts : List Tm) (s : St), (RL ts → Rr RL s (catL rec bs n ts s)) ∧ Rr (fun _ => True) s (catL rec bs n ts s)
  | 0, ts, s => ⟨fun _ => .err, .err⟩
  | n + 1, ts, s => by
    rw [catL]
    split
    · exact ⟨fun h => .okk rfl h, .okk rfl trivial⟩
    · refine ⟨fun h => (rr_rep hrec bs s).thn (fun t s' ht => (rr_catL n (ts ++ [t]) s').1 fun x hx => ?_) fun t s' _ => (rr_catL n (ts ++ [t]) s').2, (rr_rep hrec bs s).any.thn (fun t s' _ => (rr_catL n (ts ++ [t]) s').2) fun t s' _ => (rr_catL n (ts ++ [t]) s').2⟩
      rcases List.mem_append.1 hx with e | e
      · exact h x e
      · simp at e; rw [e]; exact ht
theorem rr_cat (s : St) : Rr RT s (catF rec bs s) := by
  unfold catF
  exact ((rr_catL hrec bs _ [] s).1 fun x hx => by simp at hx).thn (fun ts s' h => .okk rfl (catT_right ts h)) fun ts s' _ => .okk rfl trivial
theorem rr_altL : ∀ (n : Nat) (ts : List Tm) (s : St), (RL ts ∧ 0 < ts.length → Rr (fun x => RL x ∧ 0 < x.length) s (altL rec bs n ts s)) ∧ Rr (fun _ => True) s (altL rec bs n ts s)
  | 0, ts, s => ⟨fun _ => .err, .err⟩
  | n + 1, ts, s => by
    rw [altL]
    split
    · have hc : Rr RT s (catF rec bs s.nx) := rr_cat hrec bs s.nx
      refine ⟨fun h => hc.thn (fun t s' ht => (rr_altL n (ts ++ [t]) s').1 ⟨fun x hx => ?_, by simp⟩) fun t s' _ => (rr_altL n (ts ++ [t]) s').2, hc.any.thn (fun t s' _ => (rr_altL n (ts ++ [t]) s').2) fun t s' _ => (rr_altL n (ts ++ [t]) s').2⟩
      rcases List.mem_append.1 hx with e | e
      · exact h.1 x e
      · simp at e; rw [e]; exact ht
    · exact ⟨fun h => .okk rfl h, .okk rfl trivial⟩
theorem rr_alt (s : St) : Rr RT s (altG rec bs s) := by
  unfold altG
  refine (rr_cat hrec bs s).thn (fun t s1 ht => ((rr_altL hrec bs _ [t] s1).1 ⟨fun x hx => by simp at hx; rw [hx]; exact ht, by simp⟩).thn (fun ts s' h => .okk rfl (altT_right ts h.2 h.1)) fun ts s' _ => .okk rfl trivial) fun t s1 _ => (rr_altL hrec bs _ [t] s1).2.thn (fun ts s' _ => .okk rfl trivial) fun ts s' _ => .okk rfl trivial
end
theorem rr_altF (bs : List Nat) : ∀ (n : Nat) (s : St), Rr RT s (altF bs n s)
  | 0, _ => .err
  | n + 1, s => rr_alt (rr_altF bs n) bs s
/-- what is read is right -/
theorem parse_right (bs : List Nat) (t : Tm) (y : Int) (h : parseF bs = (t, 0, y)) : rightT t = true ∧ y = 0 := by
  unfold parseF at h
  split at h
  · injection h with h1 h2; injection h2 with h2 h3; cases h2
  · split at h
    · injection h with h1 h2; injection h2 with h2 h3; cases h2
    · rename_i t' s' e
      split at h
      · split at h
        · split at h
          · rename_i hrp
            injection h with h1 h2; injection h2 with h2 h3
            subst h1
            exact ⟨(rr_altF bs _ s0 _ s' e hrp).2, h3.symm⟩
          · injection h with h1 h2; injection h2 with h2 h3; cases h2
        · injection h with h1 h2; injection h2 with h2 h3; cases h2
      · injection h with h1 h2; injection h2 with h2 h3; cases h2
end Go.Proofs.Ytkljagffccommaa
namespace Go.Proofs.Ytkljagffccommaa
open Go.RowKit
/-- does a text go deeper than may be? -/
def scanD : List Nat → Int → Bool
  | [], _ => false
  | c :: r, d => if 30 < (if c = 40 then d + 1 else if c = 41 then d - 1 else d) then true else scanD r (if c = 40 then d + 1 else if c = 41 then d - 1 else d)
def plainL (l : List Nat) : Prop := ∀ c ∈ l, c ≠ 40 ∧ c ≠ 41
theorem scan_plain (l rest : List Nat) (d : Int) (hd : d ≤ 30) (h : plainL l) : scanD (l ++ rest) d = scanD rest d := by
  induction l with
  | nil => rfl
  | cons c r ih =>
    have hc := h c (by simp)
    rw [List.cons_append, scanD, if_neg hc.1, if_neg hc.2, if_neg (by omega)]
    exact ih fun x hx => h x (by simp [hx])
theorem plain_app {a b : List Nat} (ha : plainL a) (hb : plainL b) : plainL (a ++ b) := fun c hc => by
  rcases List.mem_append.1 hc with h | h
  · exact ha c h
  · exact hb c h
theorem plain_cons {x : Nat} {l : List Nat} (hx : x ≠ 40 ∧ x ≠ 41) (h : plainL l) : plainL (x :: l) := fun c hc => by
  rcases List.mem_cons.1 hc with e | e
  · rw [e]; exact hx
  · exact h c e
theorem plain_nil : plainL [] := fun c hc => by simp at hc
theorem hexd_plain (n : Nat) : hexd n ≠ 40 ∧ hexd n ≠ 41 := by unfold hexd; split <;> omega
theorem byte_plain (b : Nat) : plainL (byteF b) := by
  unfold byteF
  cases h : isAl b with
  | true =>
    rw [if_pos rfl]
    have := (isAl_iff b).1 h
    exact plain_cons (by omega) plain_nil
  | false =>
    rw [if_neg (by simp)]
    exact plain_cons (by omega) (plain_cons (by omega) (plain_cons (hexd_plain _) (plain_cons (hexd_plain _) plain_nil)))
theorem run_plain (r : Nat × Nat) : plainL (runF r) := by
  unfold runF
  refine plain_app (byte_plain _) ?_
  split
  · refine plain_app ?_ (byte_plain _)
    split
    · exact plain_nil
    · exact plain_cons (by omega) plain_nil
  · exact plain_nil
theorem set_plain (f : Nat → Bool) : plainL (setForm f) := by
  unfold setForm
  split
  · exact plain_cons (by omega) (plain_cons (by omega) (plain_cons (by omega) (plain_cons (by omega) (plain_cons (by omega) plain_nil))))
  split
  · exact byte_plain _
  · refine plain_app (plain_cons (by omega) fun c hc => ?_) (plain_cons (by omega) plain_nil)
    obtain ⟨r, _, hr⟩ := List.mem_flatMap.1 hc
    exact run_plain r c hr
theorem num_plain (n : Nat) : plainL (numF n) := by
  unfold numF
  split
  · exact plain_cons (by omega) plain_nil
  split
  · exact plain_cons (by omega) (plain_cons (by omega) plain_nil)
  · exact plain_cons (by omega) (plain_cons (by omega) (plain_cons (by omega) plain_nil))
theorem quant_plain (lo hi : Int) : plainL (quantOf lo hi) := by
  unfold quantOf
  split
  · split
    · exact plain_cons (by omega) plain_nil
    · exact plain_cons (by omega) plain_nil
  split
  · exact plain_cons (by omega) plain_nil
  split
  · exact plain_app (plain_cons (by omega) (num_plain _)) (plain_cons (by omega) (plain_cons (by omega) plain_nil))
  split
  · exact plain_app (plain_cons (by omega) (num_plain _)) (plain_cons (by omega) plain_nil)
  · exact plain_app (plain_app (plain_cons (by omega) (num_plain _)) (plain_cons (by omega) (num_plain _))) (plain_cons (by omega) plain_nil)
mutual
theorem scan_form : ∀ (t : Tm) (rest : List Nat) (d : Int), d ≤ 30 → scanD (formT t ++ rest) d = if 30 < d + depT t then true else scanD rest d
  | .mk op f lo hi ks, rest, d, hd => by
    by_cases h : op = 6 ∨ op = 7 ∨ op = 8
    · rw [formT, depT, if_pos h, if_neg (by omega), if_neg (by omega), if_neg (by omega), if_neg (by omega), if_pos h, List.append_assoc, scan_formL op ks true _ d hd]
      split
      · rfl
      · split
        · rw [scan_plain _ _ _ hd (quant_plain lo hi)]
        · rfl
    · rw [depT, if_neg h, if_neg (by omega)]
      apply scan_plain _ _ _ hd
      rw [formT]
      split
      · exact set_plain f
      split
      · exact plain_cons (by omega) plain_nil
      split
      · exact plain_cons (by omega) plain_nil
      split
      · exact plain_cons (by omega) plain_nil
      · exact plain_nil
theorem scan_formL (p : Int) : ∀ (ks : List Tm) (b : Bool) (rest : List Nat) (d : Int), d ≤ 30 → scanD (formL p ks b ++ rest) d = if 30 < d + depL p ks then true else scanD rest d
  | [], b, rest, d, hd => by rw [formL, depL, if_neg (by omega)]; rfl
  | k :: r, b, rest, d, hd => by
    rw [formL, depL, List.append_assoc, List.append_assoc]
    have hbar : plainL (if p = 7 ∧ b = false then [124] else []) := by
      split
      · exact plain_cons (by omega) plain_nil
      · exact plain_nil
    rw [scan_plain _ _ _ hd hbar]
    cases hn : needs p (opOf k) with
    | false =>
      simp only [Bool.false_eq_true, if_false, Nat.add_zero]
      rw [scan_form k _ d hd, scan_formL p r false rest d hd]
      split
      · rw [if_pos (by omega)]
      · split
        · rw [if_pos (by omega)]
        · rw [if_neg (by omega)]
    | true =>
      simp only [if_true]
      rw [List.cons_append, scanD]
      simp only [if_true]
      by_cases h30 : 30 < d + 1
      · rw [if_pos h30, if_pos (by omega)]
      · rw [if_neg h30, List.append_assoc, scan_form k _ (d + 1) (by omega)]
        split
        · rw [if_pos (by omega)]
        · rw [List.cons_append, List.nil_append, scanD]
          simp only [if_true]
          rw [if_neg (by omega), if_neg (by omega), show d + 1 - 1 = d by omega, scan_formL p r false rest d hd]
          split
          · rw [if_pos (by omega)]
          · rw [if_neg (by omega)]
end
theorem scan_whole (t : Tm) : scanD (formT t) 0 = decide (30 < depT t) := by
  have := scan_form t [] 0 (by omega)
  rw [List.append_nil] at this
  rw [this]
  by_cases h : 30 < depT t
  · rw [if_pos (by omega), decide_eq_true h]
  · rw [if_neg (by omega), decide_eq_false h]; rfl
/-- a row's form, kid by kid -/
theorem formL_snoc (p : Int) (k : Tm) : ∀ (ks : List Tm) (b : Bool), formL p (ks ++ [k]) b = formL p ks b ++ ((if p = 7 ∧ (b = false ∨ 0 < ks.length) then [124] else []) ++ kidF p k)
  | [], b => by
    rw [List.nil_append, formL_cons, formL, formL, List.append_nil]
    cases b <;> simp
  | x :: r, b => by
    rw [List.cons_append, formL_cons, formL_snoc p k r false, formL_cons, List.append_assoc, List.append_assoc]
    simp
theorem formL_mono (p : Int) : ∀ (a c : List Tm) (b : Bool), (formL p a b).length ≤ (formL p (a ++ c) b).length
  | [], c, b => by rw [formL]; exact Nat.zero_le _
  | x :: r, c, b => by
    have := formL_mono p r c false
    rw [List.cons_append, formL_cons, formL_cons]
    simp only [List.length_append]
    omega
end Go.Proofs.Ytkljagffccommaa
namespace Go.Proofs.Ytkljagffccommaa
open Go.RowKit
/-- a set with the other case of each letter -/
def fdF (f : Nat → Bool) (i : Nat) : Bool := f i || (decide (65 ≤ i ∧ i < 91) && f (i + 32)) || (decide (97 ≤ i ∧ i < 123) && f (i - 32))
def dotF (dt : Bool) (i : Nat) : Bool := dt || !(decide (i = 10))
def resS (fo dt : Bool) (op : Int) (f : Nat → Bool) : Nat → Bool := if op = 3 then (if fo = true then fdF (dotF dt) else dotF dt) else if op = 2 ∧ fo = true then fdF f else f
mutual
def resT (fo dt : Bool) : Tm → Tm
  | .mk op f lo hi ks => .mk (if op = 3 then 2 else op) (resS fo dt op f) lo hi (resL fo dt ks)
def resL (fo dt : Bool) : List Tm → List Tm
  | [] => []
  | k :: r => resT fo dt k :: resL fo dt r
end
mutual
def dotsT : Tm → Nat
  | .mk op _ _ _ ks => (if op = 3 then 1 else 0) + dotsL ks
def dotsL : List Tm → Nat
  | [] => 0
  | k :: r => dotsT k + dotsL r
end
theorem resL_len (fo dt : Bool) : ∀ ks, (resL fo dt ks).length = ks.length
  | [] => rfl
  | k :: r => by rw [resL, List.length_cons, List.length_cons, resL_len fo dt r]
mutual
theorem res_dots (fo dt : Bool) : ∀ t, dotsT (resT fo dt t) = 0
  | .mk op f lo hi ks => by
    rw [resT, dotsT, resL_dots fo dt ks]
    by_cases h : op = 3
    · rw [if_pos h]; rfl
    · rw [if_neg h, if_neg h]
theorem resL_dots (fo dt : Bool) : ∀ ks, dotsL (resL fo dt ks) = 0
  | [] => rfl
  | k :: r => by rw [resL, dotsL, res_dots fo dt k, resL_dots fo dt r]
end
theorem fdF_twice (f : Nat → Bool) (i : Nat) : fdF (fdF f) i = fdF f i := by
  unfold fdF
  by_cases h1 : 65 ≤ i ∧ i < 91
  · rw [decide_eq_true h1, decide_eq_false (show ¬ (97 ≤ i ∧ i < 123) by omega), decide_eq_false (show ¬ (65 ≤ i + 32 ∧ i + 32 < 91) by omega), decide_eq_true (show 97 ≤ i + 32 ∧ i + 32 < 123 by omega), Nat.add_sub_cancel]
    cases f i <;> cases f (i + 32) <;> rfl
  · rw [decide_eq_false h1]
    by_cases h2 : 97 ≤ i ∧ i < 123
    · rw [decide_eq_true h2, decide_eq_true (show 65 ≤ i - 32 ∧ i - 32 < 91 by omega), decide_eq_false (show ¬ (97 ≤ i - 32 ∧ i - 32 < 123) by omega), show i - 32 + 32 = i by omega]
      cases f i <;> cases f (i - 32) <;> rfl
    · rw [decide_eq_false h2]; simp
theorem fdF_all (i : Nat) : fdF (dotF true) i = true := by unfold fdF dotF; simp
theorem eqk_pt {f g : Nat → Bool} (h : ∀ i, f i = g i) : eqK f g = true := (eqK_iff f g).2 fun i _ => h i
theorem eqk_rfl (f : Nat → Bool) : eqK f f = true := eqk_pt fun _ => rfl
theorem resS_twice (fo dt : Bool) (op : Int) (f : Nat → Bool) (i : Nat) : resS fo dt (if op = 3 then 2 else op) (resS fo dt op f) i = resS fo dt op f i := by
  unfold resS
  by_cases h3 : op = 3
  · rw [if_pos h3, if_pos h3, if_neg (by omega)]
    cases fo with
    | true => rw [if_pos ⟨rfl, rfl⟩, if_pos rfl, fdF_twice]
    | false => rw [if_neg (by simp)]
  · rw [if_neg h3, if_neg h3, if_neg h3]
    by_cases h2 : op = 2 ∧ fo = true
    · rw [if_pos h2, if_pos h2, fdF_twice]
    · rw [if_neg h2, if_neg h2]
mutual
theorem res_twice (fo dt : Bool) : ∀ t, sameT (resT fo dt t) (resT fo dt (resT fo dt t)) = true
  | .mk op f lo hi ks => by
    rw [resT, resT, sameT_mk]
    refine ⟨?_, eqk_pt fun i => (resS_twice fo dt op f i).symm, rfl, rfl, resL_twice fo dt ks⟩
    by_cases h3 : op = 3
    · rw [if_pos h3, if_neg (by omega)]
    · rw [if_neg h3, if_neg h3]
theorem resL_twice (fo dt : Bool) : ∀ ks, sameL (resL fo dt ks) (resL fo dt (resL fo dt ks)) = true
  | [] => rfl
  | k :: r => by rw [resL, resL, sameL, res_twice fo dt k, resL_twice fo dt r]; rfl
end
mutual
theorem res_steps : ∀ t, sameT (resT true true t) (resT true false (resT false true t)) = true
  | .mk op f lo hi ks => by
    rw [resT, resT, resT, sameT_mk]
    by_cases h3 : op = 3
    · refine ⟨by rw [if_pos h3, if_neg (by omega)], eqk_pt fun i => ?_, rfl, rfl, resL_steps ks⟩
      unfold resS
      rw [if_pos h3, if_pos rfl, if_pos h3, if_neg (by omega), if_pos ⟨rfl, rfl⟩, if_pos h3, if_neg (by simp)]
    · refine ⟨by rw [if_neg h3, if_neg h3], eqk_pt fun i => ?_, rfl, rfl, resL_steps ks⟩
      unfold resS
      rw [if_neg h3, if_neg h3, if_neg h3, if_neg h3, if_neg (show ¬ (op = 2 ∧ false = true) by simp)]
theorem resL_steps : ∀ ks, sameL (resL true true ks) (resL true false (resL false true ks)) = true
  | [] => rfl
  | k :: r => by rw [resL, resL, resL, sameL, res_steps k, resL_steps r]; rfl
end
theorem right_mk8 {op : Int} {f : Nat → Bool} {lo hi : Int} {ks : List Tm} (h : Ri op f lo hi ks) : rightT (.mk op f lo hi ks) = true := by
  rw [rightT]
  simp only [Bool.and_eq_true, Bool.or_eq_true, decide_eq_true_iff]
  refine ⟨⟨h.op1, h.op8⟩, ?_, ?_, ?_, ?_, (rightL_iff ks).2 h.kids⟩
  · unfold kidsOk
    rw [decide_eq_true_iff]
    exact ⟨fun x => by rw [h.leaf x]; rfl, h.two, h.rep⟩
  · by_cases e : op = 8
    · exact .inl e
    · exact .inr (h.num e)
  · by_cases e : op = 2
    · exact .inl e
    · exact .inr (h.set e)
  · by_cases e : op = 8
    · exact .inr (by unfold bndB; rw [decide_eq_true_iff]; exact h.bnd e)
    · exact .inl e
mutual
theorem res_right (fo dt : Bool) : ∀ t, rightT t = true → rightT (resT fo dt t) = true
  | .mk op f lo hi ks, h => by
    have r := right_is h
    rw [resT]
    apply right_mk8
    have hk := resL_right fo dt ks ((rightL_iff ks).2 r.kids)
    have hl := resL_len fo dt ks
    have r1 := r.op1
    have r8 := r.op8
    by_cases h3 : op = 3
    · rw [if_pos h3]
      have hks := r.leaf (by omega)
      exact ⟨by omega, by omega, fun _ => by rw [hks]; rfl, fun x => by omega, fun x => by omega, fun _ => r.num (by omega), fun x => by omega, fun x => by omega, (rightL_iff _).1 hk⟩
    · rw [if_neg h3]
      refine ⟨r1, r8, fun x => by rw [r.leaf x]; rfl, fun x => by rw [hl]; exact r.two x, fun x => by rw [hl]; exact r.rep x, r.num, fun x => ?_, r.bnd, (rightL_iff _).1 hk⟩
      unfold resS
      rw [if_neg h3, if_neg (fun e => x e.1)]
      exact r.set x
theorem resL_right (fo dt : Bool) : ∀ ks, rightL ks = true → rightL (resL fo dt ks) = true
  | [], _ => rfl
  | k :: r, h => by
    rw [rightL, Bool.and_eq_true] at h
    rw [resL, rightL, res_right fo dt k h.1, resL_right fo dt r h.2]
    rfl
end
end Go.Proofs.Ytkljagffccommaa
namespace Go.Proofs.Ytkljagffccommaa
open Go.RowKit
theorem right_mk {op : Int} {f : Nat → Bool} {lo hi : Int} {ks : List Tm} (h : Ri op f lo hi ks) : rightT (.mk op f lo hi ks) = true := by
  rw [rightT]
  simp only [Bool.and_eq_true, Bool.or_eq_true, decide_eq_true_iff]
  refine ⟨⟨h.op1, h.op8⟩, ?_, ?_, ?_, ?_, (rightL_iff ks).2 h.kids⟩
  · unfold kidsOk
    rw [decide_eq_true_iff]
    exact ⟨fun x => by rw [h.leaf x]; rfl, h.two, h.rep⟩
  · by_cases e : op = 8
    · exact .inl e
    · exact .inr (h.num e)
  · by_cases e : op = 2
    · exact .inl e
    · exact .inr (h.set e)
  · by_cases e : op = 8
    · exact .inr (by unfold bndB; rw [decide_eq_true_iff]; exact h.bnd e)
    · exact .inl e
theorem rt_no {op : Int} {f : Nat → Bool} {lo hi : Int} {ks : List Tm} (h : ¬ Ri op f lo hi ks) : rightT (.mk op f lo hi ks) = false := by
  rw [Bool.eq_false_iff]; intro h2; exact h (right_is h2)
end Go.Proofs.Ytkljagffccommaa
namespace Go.Proofs.Ytkljagffccommaa
open Go.RowKit
set_option maxRecDepth 100000 in
set_option maxHeartbeats 8000000 in
theorem rightR_out (op : Int) (h8 : op < 1 ∨ 8 < op) (f : Nat → Bool) (lo hi : Int) (ks : List Tm) (d : TD) (w : World) (ht : TR w (.mk op f lo hi ks) d) (ih : ∀ k ∈ ks, ∀ (d : TD) (w : World), TR w k d → Calls Try.prog 36 #[d.val] w (Tells w (.bool (rightT k)))) : Calls Try.prog 36 #[d.val] w (Tells w (.bool (rightT (.mk op f lo hi ks)))) := by
  cases ht with
  | mk _ _ _ _ _ q A c ds hq hl hn hk hr =>
  obtain ⟨n, hnn⟩ : ∃ n, ks.length = n := ⟨_, rfl⟩
  rw [hnn] at hn ⊢
  have HE : ∀ W : World, (Op.equalIn 10000 26 (.agg #[.int .u64 (uv (q 0)), .int .u64 (uv (q 1)), .int .u64 (uv (q 2)), .int .u64 (uv (q 3))]) (.agg #[.int .u64 0, .int .u64 0, .int .u64 0, .int .u64 0])).run Try.prog W = .ok (eqK f noB) W := fun W => eqk_is hq isK_zero W
  have IH := Lib.hid ih; have HK := Lib.hid hk; have HR := Lib.hid hr; have HL := Lib.hid hl; have HN := Lib.hid hnn
  have B1 := Lib.hid (below_new w (.cells #[.int .i64 op, .int .u64 (uv (q 0)), .int .u64 (uv (q 1)), .int .u64 (uv (q 2)), .int .u64 (uv (q 3)), .int .i64 lo, .int .i64 hi, .slice A n c] 29))
  obtain ⟨⟨x0, x1, x2, x3, x4, x5, x6, x7⟩, _⟩ := (TB.new w ⟨op, q, lo, hi, A, n, c⟩).all
  have OUT : Hid (rightT (.mk op f lo hi ks) = false → ∀ W', Below w.heap.size w W' → Tells w (.bool (rightT (.mk op f lo hi ks))) (.returned (.bool false)) W') := fun e W' hb => by rw [e]; exact ⟨rfl, hb⟩
  have YES : Hid (rightT (.mk op f lo hi ks) = true → ∀ W', Below w.heap.size w W' → Tells w (.bool (rightT (.mk op f lo hi ks))) (.returned (.bool true)) W') := fun e W' hb => by rw [e]; exact ⟨rfl, hb⟩
  clear ih hk hr hl hnn hq
  unfold TD.val
  have E := Lib.hid (OUT.out (rt_no fun R => by have := R.op1; have := R.op8; omega))
  clear OUT YES
  rcases h8 with h | h
  all_goals
    go_enter Try.func36, Try.ntmps36
    go_wp2
    go_ret
    exact E.out _ B1.out
end Go.Proofs.Ytkljagffccommaa
namespace Go.Proofs.Ytkljagffccommaa
open Go.RowKit
set_option maxRecDepth 100000 in
set_option maxHeartbeats 8000000 in
theorem rightR_1 (op : Int) (h8 : op = 1) (f : Nat → Bool) (lo hi : Int) (ks : List Tm) (d : TD) (w : World) (ht : TR w (.mk op f lo hi ks) d) (ih : ∀ k ∈ ks, ∀ (d : TD) (w : World), TR w k d → Calls Try.prog 36 #[d.val] w (Tells w (.bool (rightT k)))) : Calls Try.prog 36 #[d.val] w (Tells w (.bool (rightT (.mk op f lo hi ks)))) := by
  cases ht with
  | mk _ _ _ _ _ q A c ds hq hl hn hk hr =>
  obtain ⟨n, hnn⟩ : ∃ n, ks.length = n := ⟨_, rfl⟩
  rw [hnn] at hn ⊢
  have HE : ∀ W : World, (Op.equalIn 10000 26 (.agg #[.int .u64 (uv (q 0)), .int .u64 (uv (q 1)), .int .u64 (uv (q 2)), .int .u64 (uv (q 3))]) (.agg #[.int .u64 0, .int .u64 0, .int .u64 0, .int .u64 0])).run Try.prog W = .ok (eqK f noB) W := fun W => eqk_is hq isK_zero W
  have IH := Lib.hid ih; have HK := Lib.hid hk; have HR := Lib.hid hr; have HL := Lib.hid hl; have HN := Lib.hid hnn
  have B1 := Lib.hid (below_new w (.cells #[.int .i64 op, .int .u64 (uv (q 0)), .int .u64 (uv (q 1)), .int .u64 (uv (q 2)), .int .u64 (uv (q 3)), .int .i64 lo, .int .i64 hi, .slice A n c] 29))
  obtain ⟨⟨x0, x1, x2, x3, x4, x5, x6, x7⟩, _⟩ := (TB.new w ⟨op, q, lo, hi, A, n, c⟩).all
  have OUT : Hid (rightT (.mk op f lo hi ks) = false → ∀ W', Below w.heap.size w W' → Tells w (.bool (rightT (.mk op f lo hi ks))) (.returned (.bool false)) W') := fun e W' hb => by rw [e]; exact ⟨rfl, hb⟩
  have YES : Hid (rightT (.mk op f lo hi ks) = true → ∀ W', Below w.heap.size w W' → Tells w (.bool (rightT (.mk op f lo hi ks))) (.returned (.bool true)) W') := fun e W' hb => by rw [e]; exact ⟨rfl, hb⟩
  clear ih hk hr hl hnn hq
  unfold TD.val
  subst h8
  obtain ⟨z, hz⟩ : ∃ z, eqK f noB = z := ⟨_, rfl⟩
  rw [hz] at HE
  have HZ := Lib.hid hz
  clear hz
  by_cases qn : (n : Int) = 0
  case neg =>
    cases z
    all_goals
      have E := Lib.hid (OUT.out (rt_no fun R => by have h1 := R.leaf (by omega); have h2 := HN.out; rw [h1] at h2; simp at h2; omega))
      clear OUT YES
      go_enter Try.func36, Try.ntmps36
      go_wp2
      all_goals (go_ret; exact E.out _ B1.out)
  by_cases hlo : lo = 0
  case neg =>
    cases z
    all_goals
      have E := Lib.hid (OUT.out (rt_no fun R => by exact hlo (R.num (by omega)).1))
      clear OUT YES
      go_enter Try.func36, Try.ntmps36
      go_wp2
      all_goals (go_ret; exact E.out _ B1.out)
  subst hlo
  by_cases hhi : hi = 0
  case neg =>
    cases z
    all_goals
      have E := Lib.hid (OUT.out (rt_no fun R => by exact hhi (R.num (by omega)).2))
      clear OUT YES
      go_enter Try.func36, Try.ntmps36
      go_wp2
      all_goals (go_ret; exact E.out _ B1.out)
  subst hhi
  cases z with
  | false =>
    have E := Lib.hid (OUT.out (rt_no fun R => by have := R.set (by omega); rw [HZ.out] at this; cases this))
    clear OUT YES
    go_enter Try.func36, Try.ntmps36
    go_wp2
    all_goals (go_ret; exact E.out _ B1.out)
  | true =>
  go_enter Try.func36, Try.ntmps36
  go_wp2_with fail
  go_loopw [4] (fun v wr => ∃ (i : Nat), i ≤ n ∧ v = .int .i64 (i : Nat) ∧ Hid (∀ (j : Nat) (k : Tm), j < i → ks[j]? = some k → rightT k = true) ∧ Hid (wr.cell? ⟨w.heap.size, 7, none⟩ = some (.slice A n c) ∧ w.heap.size < wr.heap.size ∧ Below w.heap.size w wr)) (fun v _ => n - (intOf v).toNat)
  case atStart => exact ⟨0, Nat.zero_le _, rfl, Lib.hid (fun j k hj => by omega), Lib.hid ⟨x7, by simp, B1.out⟩⟩
  case round =>
    obtain ⟨i, hi1, rfl, hZ, hW⟩ := hrel
    clear x0 x1 x2 x3 x4 x5 x6 x7 B1 HE
    by_cases hlt : i < n
    · exact absurd hlt (by omega)
    · have qi : ¬ (i : Int) < (n : Int) := by omega
      have hin : i = n := by omega
      have ALL : ∀ k ∈ ks, rightT k = true := fun k hk => by
        obtain ⟨j, hj⟩ := List.getElem?_of_mem hk
        obtain ⟨hj2, _⟩ := List.getElem?_eq_some_iff.mp hj
        exact hZ.out j k (by have := HN.out; omega) hj
      have E : Hid (∀ W', Below w.heap.size w W' → Tells w (.bool (rightT (.mk 1 f 0 0 ks))) (.returned (.bool true)) W') := by
        exact YES.out (right_mk ⟨by omega, by omega, fun _ => List.length_eq_zero_iff.1 (by have := HN.out; omega), fun h => by omega, fun h => by omega, fun _ => ⟨rfl, rfl⟩, fun _ => HZ.out, fun h => by omega, fun k hk => by have h1 := HN.out; have h2 := List.length_pos_of_mem hk; omega⟩)
      clear hZ OUT YES ALL
      go_wp2
      go_ret
      exact E.out _ hW.out.2.2
end Go.Proofs.Ytkljagffccommaa
namespace Go.Proofs.Ytkljagffccommaa
open Go.RowKit
set_option maxRecDepth 100000 in
set_option maxHeartbeats 8000000 in
theorem rightR_2 (op : Int) (h8 : op = 2) (f : Nat → Bool) (lo hi : Int) (ks : List Tm) (d : TD) (w : World) (ht : TR w (.mk op f lo hi ks) d) (ih : ∀ k ∈ ks, ∀ (d : TD) (w : World), TR w k d → Calls Try.prog 36 #[d.val] w (Tells w (.bool (rightT k)))) : Calls Try.prog 36 #[d.val] w (Tells w (.bool (rightT (.mk op f lo hi ks)))) := by
  cases ht with
  | mk _ _ _ _ _ q A c ds hq hl hn hk hr =>
  obtain ⟨n, hnn⟩ : ∃ n, ks.length = n := ⟨_, rfl⟩
  rw [hnn] at hn ⊢
  have HE : ∀ W : World, (Op.equalIn 10000 26 (.agg #[.int .u64 (uv (q 0)), .int .u64 (uv (q 1)), .int .u64 (uv (q 2)), .int .u64 (uv (q 3))]) (.agg #[.int .u64 0, .int .u64 0, .int .u64 0, .int .u64 0])).run Try.prog W = .ok (eqK f noB) W := fun W => eqk_is hq isK_zero W
  have IH := Lib.hid ih; have HK := Lib.hid hk; have HR := Lib.hid hr; have HL := Lib.hid hl; have HN := Lib.hid hnn
  have B1 := Lib.hid (below_new w (.cells #[.int .i64 op, .int .u64 (uv (q 0)), .int .u64 (uv (q 1)), .int .u64 (uv (q 2)), .int .u64 (uv (q 3)), .int .i64 lo, .int .i64 hi, .slice A n c] 29))
  obtain ⟨⟨x0, x1, x2, x3, x4, x5, x6, x7⟩, _⟩ := (TB.new w ⟨op, q, lo, hi, A, n, c⟩).all
  have OUT : Hid (rightT (.mk op f lo hi ks) = false → ∀ W', Below w.heap.size w W' → Tells w (.bool (rightT (.mk op f lo hi ks))) (.returned (.bool false)) W') := fun e W' hb => by rw [e]; exact ⟨rfl, hb⟩
  have YES : Hid (rightT (.mk op f lo hi ks) = true → ∀ W', Below w.heap.size w W' → Tells w (.bool (rightT (.mk op f lo hi ks))) (.returned (.bool true)) W') := fun e W' hb => by rw [e]; exact ⟨rfl, hb⟩
  clear ih hk hr hl hnn hq
  unfold TD.val
  subst h8
  obtain ⟨z, hz⟩ : ∃ z, eqK f noB = z := ⟨_, rfl⟩
  rw [hz] at HE
  have HZ := Lib.hid hz
  clear hz
  by_cases qn : (n : Int) = 0
  case neg =>
    cases z
    all_goals
      have E := Lib.hid (OUT.out (rt_no fun R => by have h1 := R.leaf (by omega); have h2 := HN.out; rw [h1] at h2; simp at h2; omega))
      clear OUT YES
      go_enter Try.func36, Try.ntmps36
      go_wp2
      all_goals (go_ret; exact E.out _ B1.out)
  by_cases hlo : lo = 0
  case neg =>
    cases z
    all_goals
      have E := Lib.hid (OUT.out (rt_no fun R => by exact hlo (R.num (by omega)).1))
      clear OUT YES
      go_enter Try.func36, Try.ntmps36
      go_wp2
      all_goals (go_ret; exact E.out _ B1.out)
  subst hlo
  by_cases hhi : hi = 0
  case neg =>
    cases z
    all_goals
      have E := Lib.hid (OUT.out (rt_no fun R => by exact hhi (R.num (by omega)).2))
      clear OUT YES
      go_enter Try.func36, Try.ntmps36
      go_wp2
      all_goals (go_ret; exact E.out _ B1.out)
  subst hhi
  cases z
  all_goals
    go_enter Try.func36, Try.ntmps36
    go_wp2_with fail
    go_loopw [4] (fun v wr => ∃ (i : Nat), i ≤ n ∧ v = .int .i64 (i : Nat) ∧ Hid (∀ (j : Nat) (k : Tm), j < i → ks[j]? = some k → rightT k = true) ∧ Hid (wr.cell? ⟨w.heap.size, 7, none⟩ = some (.slice A n c) ∧ w.heap.size < wr.heap.size ∧ Below w.heap.size w wr)) (fun v _ => n - (intOf v).toNat)
    case atStart => exact ⟨0, Nat.zero_le _, rfl, Lib.hid (fun j k hj => by omega), Lib.hid ⟨x7, by simp, B1.out⟩⟩
    case round =>
      obtain ⟨i, hi1, rfl, hZ, hW⟩ := hrel
      clear x0 x1 x2 x3 x4 x5 x6 x7 B1 HE
      by_cases hlt : i < n
      · exact absurd hlt (by omega)
      · have qi : ¬ (i : Int) < (n : Int) := by omega
        have hin : i = n := by omega
        have ALL : ∀ k ∈ ks, rightT k = true := fun k hk => by
          obtain ⟨j, hj⟩ := List.getElem?_of_mem hk
          obtain ⟨hj2, _⟩ := List.getElem?_eq_some_iff.mp hj
          exact hZ.out j k (by have := HN.out; omega) hj
        have E : Hid (∀ W', Below w.heap.size w W' → Tells w (.bool (rightT (.mk 2 f 0 0 ks))) (.returned (.bool true)) W') := by
          exact YES.out (right_mk ⟨by omega, by omega, fun _ => List.length_eq_zero_iff.1 (by have := HN.out; omega), fun h => by omega, fun h => by omega, fun _ => ⟨rfl, rfl⟩, fun h => absurd rfl h, fun h => by omega, fun k hk => by have h1 := HN.out; have h2 := List.length_pos_of_mem hk; omega⟩)
        clear hZ OUT YES ALL
        go_wp2
        go_ret
        exact E.out _ hW.out.2.2
end Go.Proofs.Ytkljagffccommaa
namespace Go.Proofs.Ytkljagffccommaa
open Go.RowKit
set_option maxRecDepth 100000 in
set_option maxHeartbeats 8000000 in
theorem right_out (op : Int) (h8 : op < 1 ∨ 8 < op) (f : Nat → Bool) (lo hi : Int) (ks : List Tm) (d : TD) (w : World) (ht : TR w (.mk op f lo hi ks) d) (ih : ∀ k ∈ ks, ∀ (d : TD) (w : World), TR w k d → Calls Try.prog 36 #[d.val] w (Rgt w k)) : Calls Try.prog 36 #[d.val] w (Rgt w (.mk op f lo hi ks)) := by
  cases ht with
  | mk _ _ _ _ _ q A c ds hq hl hn hk hr =>
  obtain ⟨n, hnn⟩ : ∃ n, ks.length = n := ⟨_, rfl⟩
  rw [hnn] at hn ⊢
  have HE : ∀ W : World, (Op.equalIn 10000 26 (.agg #[.int .u64 (uv (q 0)), .int .u64 (uv (q 1)), .int .u64 (uv (q 2)), .int .u64 (uv (q 3))]) (.agg #[.int .u64 0, .int .u64 0, .int .u64 0, .int .u64 0])).run Try.prog W = .ok (eqK f noB) W := fun W => eqk_is hq isK_zero W
  have HOK : Hid ((1 ≤ op ∧ op ≤ 8) → (op < 6 → n = 0) → (op = 6 ∨ op = 7 → 2 ≤ n) → (op = 8 → n = 1 ∧ 0 ≤ lo ∧ lo ≤ 200 ∧ -1 ≤ hi ∧ hi ≤ 200 ∧ (0 ≤ hi → lo ≤ hi)) → (∀ k ∈ ks, Rt k) → Rt (.mk op f lo hi ks)) := fun a1 a2 a3 a4 b => .mk _ _ _ _ _ (by rw [hnn]; exact ⟨a1, a2, a3, a4⟩) b
  generalize eqK f noB = z at HE
  have IH := Lib.hid ih; have HK := Lib.hid hk; have HR := Lib.hid hr; have HL := Lib.hid hl; have HN := Lib.hid hnn
  have B1 := Lib.hid (below_new w (.cells #[.int .i64 op, .int .u64 (uv (q 0)), .int .u64 (uv (q 1)), .int .u64 (uv (q 2)), .int .u64 (uv (q 3)), .int .i64 lo, .int .i64 hi, .slice A n c] 29))
  obtain ⟨⟨x0, x1, x2, x3, x4, x5, x6, x7⟩, _⟩ := (TB.new w ⟨op, q, lo, hi, A, n, c⟩).all
  clear ih hk hr hl hnn hq
  unfold TD.val
  clear HOK IH HK HR HL HN HE
  rcases h8 with h | h
  all_goals
    go_enter Try.func36, Try.ntmps36
    go_wp2
    go_ret
    exact ⟨false, rfl, (fun h => by cases h), B1.out⟩
end Go.Proofs.Ytkljagffccommaa
