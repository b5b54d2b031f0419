/- Groups, and two of them with a bar between, or none. -/
import Derived.Test.YtnaecagmcpndhaaG2
namespace Go.Proofs.Ytnaecagmcpndhaa
open Go.RowKit
theorem well_of (a : List Nat) (x : Tm) (n : Int) (h : parseF a = (x, 0, n)) : Well a x ∧ a.length ≤ 200 := by
  unfold parseF at h
  by_cases hl : 200 < a.length
  · rw [if_pos hl] at h; simp at h
  rw [if_neg hl] at h
  refine ⟨?_, by omega⟩
  cases ht : altF a (a.length + 1) s0 with
  | error p => rw [ht] at h; simp at h
  | ok z =>
    obtain ⟨t, s⟩ := z
    rw [ht] at h
    by_cases h1 : s.i = a.length
    · by_cases h2 : s.dp = -1
      · by_cases h3 : s.rp = -1
        · simp [h1, h2, h3] at h
          exact ⟨s, by rw [← h.1]; exact ht, h1, h3⟩
        · simp [h1, h2, h3] at h
      · simp [h1, h2] at h
    · simp [h1] at h
theorem bn_post (a b : List Nat) (j : Nat) : bn (a ++ b) (a.length + j) = bn b j := by
  unfold bn
  rw [List.getD, List.getD, List.getElem?_append_right (by omega)]
  simp
theorem ins_mid (pre a post : List Nat) (hp : bn post 0 = 41) : Ins a (pre ++ (a ++ post)) pre.length :=
  ⟨by simp, fun j hj => by rw [bn_post, bn_app _ _ _ hj], .inr (by rw [bn_post]; have := bn_post a post 0; rw [Nat.add_zero] at this; rw [this]; exact hp)⟩
theorem rep_grp {v : List Nat} {x : Tm} {s t : St} (ho : sb v s.i 40 = true) (hg : groupF (altF v v.length) v s = .ok (x, t)) (hq : ∀ b, b = 42 ∨ b = 43 ∨ b = 63 ∨ b = 123 → sb v t.i b = false) : repF (altF v v.length) v s = .ok (x, t) := by
  unfold repF atomF
  rw [if_pos ho, hg, thn_ok]
  unfold quantF
  rw [hq 42 (by omega), hq 43 (by omega), hq 63 (by omega), hq 123 (by omega)]
  rfl
theorem step_cat {v : List Nat} {n : Nat} {ts : List Tm} {x : Tm} {s t : St} (ho : sb v s.i 40 = true) (hr : repF (altF v v.length) v s = .ok (x, t)) : catL (altF v v.length) v (n + 1) ts s = catL (altF v v.length) v n (ts ++ [x]) t := by
  have h1 := (sb_lt ho).1
  have h2 := (sb_lt ho).2
  rw [catL, if_neg, hr, thn_ok]
  rintro (e | e | e)
  · omega
  · have := (sb_lt e).2; omega
  · have := (sb_lt e).2; omega
theorem stop_cat {v : List Nat} {n : Nat} {ts : List Tm} {s : St} (hs : s.i = v.length ∨ sb v s.i 124 = true) (hn : 0 < n) : catL (altF v v.length) v n ts s = .ok (ts, s) := by
  obtain ⟨m, rfl⟩ : ∃ m, n = m + 1 := ⟨n - 1, by omega⟩
  rw [catL, if_pos]
  rcases hs with h | h
  · exact .inl h
  · exact .inr (.inl h)
theorem parse_top {v : List Nat} {x : Tm} {t : St} (hl : v.length ≤ 200) (ht : topF v = .ok (x, t)) (hi : t.i = v.length) (hr : t.rp = -1) : parseF v = if t.dp = -1 then (x, 0, 0) else (zTm, 52, t.dp) := by
  unfold parseF
  rw [if_neg (by omega)]
  show (match topF v with | .error p => (zTm, 50, (p : Int)) | .ok (t, s) => if s.i = v.length then if s.dp = -1 then if s.rp = -1 then (t, 0, 0) else (zTm, 51, s.rp) else (zTm, 52, s.dp) else (zTm, 50, (s.i : Int))) = _
  rw [ht]
  simp [hi, hr]
/-- a text in brackets -/
theorem parse_grp (a : List Nat) (x : Tm) (W : Well a x) (hl : a.length ≤ 198) : ∃ D : Int, parseF ([40] ++ (a ++ [41])) = if D = -1 then (x, 0, 0) else (zTm, 52, D) := by
  obtain ⟨v, hv⟩ : ∃ v, [40] ++ (a ++ [41]) = v := ⟨_, rfl⟩
  have A : Ins a v (0 + 1) := by rw [← hv]; exact ins_mid [40] a [41] rfl
  have hlen : v.length = a.length + 2 := by rw [← hv]; simp
  have o : sb v 0 40 = true := sbT (by omega) (by rw [← hv]; rfl)
  have c : sb v (0 + 1 + a.length) 41 = true := sbT (by omega) (by rw [← hv, show 0 + 1 + a.length = [40].length + a.length by simp, bn_post, show a.length = a.length + 0 by omega, bn_post]; rfl)
  obtain ⟨t, _, hg, _, ti, _, tr, _⟩ := group2 W A A o o c c (s1 := s0) (s2 := s0) rfl rfl rfl rfl rfl Iff.rfl
  have hr := rep_grp o hg (fun b _ => sbF (by omega))
  have hc : catF (altF v v.length) v s0 = .ok (x, t) := by
    unfold catF
    rw [step_cat o hr, stop_cat (.inl (by omega)) (by omega), thn_ok]
    rfl
  have ht : topF v = .ok (x, t) := by
    show altG (altF v v.length) v s0 = _
    unfold altG
    rw [hc, thn_ok, altL, if_neg (by rw [sbF (by omega)]; simp), thn_ok]
    rfl
  rw [hv]
  exact ⟨t.dp, parse_top (by omega) ht (by omega) tr⟩
/-- two texts in brackets, with a bar between, and with none -/
theorem parse_two (a b : List Nat) (x y : Tm) (Wa : Well a x) (Wb : Well b y) (hl : a.length + b.length ≤ 150) :
    ∃ D E : Int, (D = -1 ↔ E = -1) ∧ parseF ([40] ++ (a ++ ([41, 124, 40] ++ (b ++ [41])))) = (if D = -1 then (.mk 7 noB 0 0 [x, y], 0, 0) else (zTm, 52, D)) ∧ parseF ([40] ++ (a ++ ([41, 40] ++ (b ++ [41])))) = (if E = -1 then (.mk 6 noB 0 0 [x, y], 0, 0) else (zTm, 52, E)) := by
  obtain ⟨v1, hv1⟩ : ∃ v, [40] ++ (a ++ ([41, 124, 40] ++ (b ++ [41]))) = v := ⟨_, rfl⟩
  obtain ⟨v2, hv2⟩ : ∃ v, [40] ++ (a ++ ([41, 40] ++ (b ++ [41]))) = v := ⟨_, rfl⟩
  have A1 : Ins a v1 (0 + 1) := by rw [← hv1]; exact ins_mid [40] a _ rfl
  have A2 : Ins a v2 (0 + 1) := by rw [← hv2]; exact ins_mid [40] a _ rfl
  have l1 : v1.length = a.length + b.length + 5 := by rw [← hv1]; simp; omega
  have l2 : v2.length = a.length + b.length + 4 := by rw [← hv2]; simp; omega
  have g1 : ∀ j, bn v1 (a.length + 1 + j) = bn ([41, 124, 40] ++ (b ++ [41])) j := fun j => by rw [← hv1, show a.length + 1 + j = [40].length + (a.length + j) by simp; omega, bn_post, bn_post]
  have g2 : ∀ j, bn v2 (a.length + 1 + j) = bn ([41, 40] ++ (b ++ [41])) j := fun j => by rw [← hv2, show a.length + 1 + j = [40].length + (a.length + j) by simp; omega, bn_post, bn_post]
  have hb1 : ∀ j, bn ([41, 124, 40] ++ (b ++ [41])) (3 + j) = bn (b ++ [41]) j := fun j => bn_post [41, 124, 40] _ j
  have hb2 : ∀ j, bn ([41, 40] ++ (b ++ [41])) (2 + j) = bn (b ++ [41]) j := fun j => bn_post [41, 40] _ j
  have hbe : bn (b ++ [41]) b.length = 41 := by have := bn_post b [41] 0; rw [Nat.add_zero] at this; exact this
  have B1 : Ins b v1 (a.length + 3 + 1) := ⟨by omega, fun j hj => by rw [show a.length + 3 + 1 + j = a.length + 1 + (3 + j) by omega, g1, hb1, bn_app _ _ _ hj], .inr (by rw [show a.length + 3 + 1 + b.length = a.length + 1 + (3 + b.length) by omega, g1, hb1, hbe])⟩
  have B2 : Ins b v2 (a.length + 2 + 1) := ⟨by omega, fun j hj => by rw [show a.length + 2 + 1 + j = a.length + 1 + (2 + j) by omega, g2, hb2, bn_app _ _ _ hj], .inr (by rw [show a.length + 2 + 1 + b.length = a.length + 1 + (2 + b.length) by omega, g2, hb2, hbe])⟩
  have o1 : sb v1 0 40 = true := sbT (by omega) (by rw [← hv1]; rfl)
  have o2 : sb v2 0 40 = true := sbT (by omega) (by rw [← hv2]; rfl)
  have c1 : sb v1 (0 + 1 + a.length) 41 = true := sbT (by omega) (by rw [show 0 + 1 + a.length = a.length + 1 + 0 by omega, g1]; rfl)
  have c2 : sb v2 (0 + 1 + a.length) 41 = true := sbT (by omega) (by rw [show 0 + 1 + a.length = a.length + 1 + 0 by omega, g2]; rfl)
  obtain ⟨t1, t2, e1, e2, i1, i2, r1, r2, ho, hd⟩ := group2 Wa A1 A2 o1 o2 c1 c2 (s1 := s0) (s2 := s0) rfl rfl rfl rfl rfl Iff.rfl
  have bar : sb v1 t1.i 124 = true := sbT (by omega) (by rw [i1, show 0 + a.length + 2 = a.length + 1 + 1 by omega, g1]; rfl)
  have p1 : sb v1 (a.length + 3) 40 = true := sbT (by omega) (by rw [show a.length + 3 = a.length + 1 + 2 by omega, g1]; rfl)
  have p2 : sb v2 (a.length + 2) 40 = true := sbT (by omega) (by rw [show a.length + 2 = a.length + 1 + 1 by omega, g2]; rfl)
  have d1 : sb v1 (a.length + 3 + 1 + b.length) 41 = true := sbT (by omega) (by rw [show a.length + 3 + 1 + b.length = a.length + 1 + (3 + b.length) by omega, g1, hb1, hbe])
  have d2 : sb v2 (a.length + 2 + 1 + b.length) 41 = true := sbT (by omega) (by rw [show a.length + 2 + 1 + b.length = a.length + 1 + (2 + b.length) by omega, g2, hb2, hbe])
  have j1 : t1.nx.i = a.length + 3 := by show t1.i + 1 = _; omega
  obtain ⟨w1, w2, f1, f2, k1, k2, q1, q2, ho', hd'⟩ := group2 Wb B1 B2 p1 p2 d1 d2 (s1 := t1.nx) (s2 := t2) j1 (by omega) r1 r2 ho hd
  have x1 := rep_grp (s := s0) o1 e1 (fun c hc => sbF (by have := (sb_lt bar).2; omega))
  have x2 := rep_grp (s := s0) o2 e2 (fun c hc => sbF (by have := (sb_lt p2).2; rw [i2, show 0 + a.length + 2 = a.length + 2 by omega]; omega))
  have y1 := rep_grp (s := t1.nx) (by rw [j1]; exact p1) f1 (fun c hc => sbF (by omega))
  have y2 := rep_grp (s := t2) (by rw [i2, show 0 + a.length + 2 = a.length + 2 by omega]; exact p2) f2 (fun c hc => sbF (by omega))
  have ca : catF (altF v1 v1.length) v1 s0 = .ok (x, t1) := by
    unfold catF
    rw [step_cat o1 x1, stop_cat (.inr bar) (by omega), thn_ok]
    rfl
  have cb : catF (altF v1 v1.length) v1 t1.nx = .ok (y, w1) := by
    unfold catF
    rw [step_cat (by rw [j1]; exact p1) y1, stop_cat (.inl (by omega)) (by omega), thn_ok]
    rfl
  have T1 : topF v1 = .ok (.mk 7 noB 0 0 [x, y], w1) := by
    show altG (altF v1 v1.length) v1 s0 = _
    unfold altG
    obtain ⟨m, hm⟩ : ∃ m, v1.length = m + 1 := ⟨v1.length - 1, by omega⟩
    rw [ca, thn_ok, altL, if_pos bar, cb, thn_ok]
    have e : altL (altF v1 v1.length) v1 v1.length ([x] ++ [y]) w1 = .ok ([x, y], w1) := by
      generalize altF v1 v1.length = rc
      rw [show altL rc v1 v1.length ([x] ++ [y]) w1 = altL rc v1 (m + 1) ([x] ++ [y]) w1 by rw [hm], altL, if_neg (by rw [sbF (by omega)]; simp)]
      rfl
    rw [e, thn_ok]
    rfl
  have cc : catF (altF v2 v2.length) v2 s0 = .ok (.mk 6 noB 0 0 [x, y], w2) := by
    unfold catF
    have e := step_cat (n := v2.length) (ts := []) o2 x2
    rw [e]
    obtain ⟨m, hm⟩ : ∃ m, v2.length = m + 1 := ⟨v2.length - 1, by omega⟩
    have e3 : catL (altF v2 v2.length) v2 v2.length ([] ++ [x]) t2 = .ok ([x, y], w2) := by
      have e4 := step_cat (v := v2) (n := m) (ts := [] ++ [x]) (s := t2) (by rw [i2, show 0 + a.length + 2 = a.length + 2 by omega]; exact p2) y2
      rw [← hm] at e4
      rw [e4, stop_cat (.inl (by omega)) (by omega)]
      rfl
    rw [e3, thn_ok]
    rfl
  have T2 : topF v2 = .ok (.mk 6 noB 0 0 [x, y], w2) := by
    show altG (altF v2 v2.length) v2 s0 = _
    unfold altG
    rw [cc, thn_ok, altL, if_neg (by rw [sbF (by omega)]; simp), thn_ok]
    rfl
  rw [hv1, hv2]
  exact ⟨w1.dp, w2.dp, hd', parse_top (by omega) T1 (by omega) q1, parse_top (by omega) T2 (by omega) q2⟩
end Go.Proofs.Ytnaecagmcpndhaa
