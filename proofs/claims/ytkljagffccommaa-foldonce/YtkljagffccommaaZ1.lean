/- The extent of a term, as functions; a term made simpler has the extent that it had, is right, and has no more positions. The walks of its parts. -/
import Derived.Test.YtkljagffccommaaE38

/- The extent of a term, as functions: pure. -/
namespace Go.Proofs.Ytkljagffccommaa
open Go.RowKit
namespace Sp
def Sm (a : Int) : Prop := 0 ≤ a ∧ a ≤ 1099511627776
def plusF (a b : Int) : Int := if a + b ≤ 1099511627776 then a + b else 1099511627776
def timesF (a b : Int) : Int := if a * b ≤ 1099511627776 then a * b else 1099511627776
structure Ex where
  l : Int
  m : Int
  a : Bool
def mostF (f : Int → Int → Int) (a b : Int) : Int := if a = -1 ∨ b = -1 then -1 else f a b
def thenF (x y : Ex) : Ex := if x.a && y.a then ⟨plusF x.l y.l, mostF plusF x.m y.m, true⟩ else ⟨0, 0, false⟩
def orF (x y : Ex) : Ex := if x.a then (if y.a then ⟨min x.l y.l, mostF max x.m y.m, true⟩ else x) else y
def repeatF (x : Ex) (lo hi : Int) : Ex := if x.a then ⟨timesF x.l lo, if x.m = 0 ∨ hi = 0 then 0 else mostF timesF x.m hi, true⟩ else ⟨0, 0, decide (lo = 0)⟩
mutual
def spanT : Tm → Ex
  | .mk op f lo hi ks => if op = 1 ∨ op = 4 ∨ op = 5 then ⟨0, 0, true⟩ else if op = 3 then ⟨1, 1, true⟩ else if op = 2 then (if eqK f noF then ⟨0, 0, false⟩ else ⟨1, 1, true⟩)
      else if op = 6 then catX ks ⟨0, 0, true⟩ else if op = 7 then altX ks ⟨0, 0, false⟩ else if op = 8 then repX ks lo hi else ⟨0, 0, false⟩
def catX : List Tm → Ex → Ex
  | [], x => x
  | k :: r, x => catX r (thenF x (spanT k))
def altX : List Tm → Ex → Ex
  | [], x => x
  | k :: r, x => altX r (orF x (spanT k))
def repX : List Tm → Int → Int → Ex
  | [k], lo, hi => repeatF (spanT k) lo hi
  | _, _, _ => ⟨0, 0, false⟩
end
/-- what an extent may be: within bounds; of what matches nothing it is nothing -/
structure En (x : Ex) : Prop where
  l : Sm x.l
  m : x.m = -1 ∨ Sm x.m
  n : x.a = false → x.l = 0 ∧ x.m = 0
theorem En.none {x : Ex} (h : En x) (e : x.a = false) : x = ⟨0, 0, false⟩ := by
  obtain ⟨h1, h2⟩ := h.n e
  cases x; simp_all
theorem plus_sm {a b : Int} (ha : Sm a) (hb : Sm b) : Sm (plusF a b) := by unfold Sm plusF at *; split <;> omega
theorem plus_assoc {a b c : Int} (ha : Sm a) (hb : Sm b) (hc : Sm c) : plusF (plusF a b) c = plusF a (plusF b c) := by
  unfold Sm at *; unfold plusF; repeat' split
  all_goals omega
theorem zero_plus {a : Int} (ha : Sm a) : plusF 0 a = a := by unfold Sm at *; unfold plusF; split <;> omega
theorem plus_zero {a : Int} (ha : Sm a) : plusF a 0 = a := by unfold Sm at *; unfold plusF; split <;> omega
theorem most_assoc {a b c : Int} (ha : a = -1 ∨ Sm a) (hb : b = -1 ∨ Sm b) (hc : c = -1 ∨ Sm c) : mostF plusF (mostF plusF a b) c = mostF plusF a (mostF plusF b c) := by
  by_cases h1 : a = -1
  · simp [mostF, h1]
  by_cases h3 : c = -1
  · simp [mostF, h3]
  by_cases h2 : b = -1
  · simp [mostF, h2]
  have a' := ha.resolve_left h1
  have b' := hb.resolve_left h2
  have c' := hc.resolve_left h3
  have p1 := plus_sm a' b'
  have p2 := plus_sm b' c'
  have n1 : plusF a b ≠ -1 := fun e => by rw [e] at p1; unfold Sm at p1; omega
  have n2 : plusF b c ≠ -1 := fun e => by rw [e] at p2; unfold Sm at p2; omega
  simp only [mostF, h1, h2, h3, n1, n2, or_self, if_false]
  exact plus_assoc a' b' c'
theorem most_plus_sm {a b : Int} (ha : a = -1 ∨ Sm a) (hb : b = -1 ∨ Sm b) : mostF plusF a b = -1 ∨ Sm (mostF plusF a b) := by
  unfold mostF
  split
  · exact .inl rfl
  · rename_i h
    exact .inr (plus_sm (ha.resolve_left fun e => h (.inl e)) (hb.resolve_left fun e => h (.inr e)))
theorem en0 (b : Bool) : En ⟨0, 0, b⟩ := by
  refine ⟨?_, .inr ?_, fun _ => ⟨rfl, rfl⟩⟩
  · show (0 : Int) ≤ 0 ∧ (0 : Int) ≤ 1099511627776; omega
  · show (0 : Int) ≤ 0 ∧ (0 : Int) ≤ 1099511627776; omega
theorem en1 : En ⟨1, 1, true⟩ := by
  refine ⟨?_, .inr ?_, fun e => by cases e⟩
  · show (0 : Int) ≤ 1 ∧ (1 : Int) ≤ 1099511627776; omega
  · show (0 : Int) ≤ 1 ∧ (1 : Int) ≤ 1099511627776; omega
theorem then_en {x y : Ex} (hx : En x) (hy : En y) : En (thenF x y) := by
  unfold thenF
  split
  · exact ⟨plus_sm hx.l hy.l, most_plus_sm hx.m hy.m, fun e => by cases e⟩
  · exact en0 false
theorem then_assoc {x y z : Ex} (hx : En x) (hy : En y) (hz : En z) : thenF (thenF x y) z = thenF x (thenF y z) := by
  unfold thenF
  cases h1 : x.a <;> cases h2 : y.a <;> cases h3 : z.a <;> simp [plus_assoc hx.l hy.l hz.l, most_assoc hx.m hy.m hz.m]
theorem one_then {x : Ex} (hx : En x) : thenF ⟨0, 0, true⟩ x = x := by
  unfold thenF
  cases h : x.a with
  | false => rw [hx.none h]; rfl
  | true =>
    have hm : mostF plusF 0 x.m = x.m := by
      unfold mostF
      by_cases e : x.m = -1
      · rw [if_pos (.inr e), e]
      · rw [if_neg (by omega), zero_plus (hx.m.resolve_left e)]
    cases x
    simp_all [zero_plus hx.l]
theorem then_one {x : Ex} (hx : En x) : thenF x ⟨0, 0, true⟩ = x := by
  unfold thenF
  cases h : x.a with
  | false => rw [hx.none h]; rfl
  | true =>
    have hm : mostF plusF x.m 0 = x.m := by
      unfold mostF
      by_cases e : x.m = -1
      · rw [if_pos (.inl e), e]
      · rw [if_neg (by omega), plus_zero (hx.m.resolve_left e)]
    cases x
    simp_all [plus_zero hx.l]
theorem then_none (x y : Ex) (h : y.a = false) : thenF x y = ⟨0, 0, false⟩ := by unfold thenF; rw [h, Bool.and_false]; rfl
theorem none_then (y : Ex) : thenF ⟨0, 0, false⟩ y = ⟨0, 0, false⟩ := rfl
theorem most_max_comm (a b : Int) : mostF max a b = mostF max b a := by
  unfold mostF
  repeat' split
  all_goals omega
theorem most_max_assoc {a b c : Int} (ha : -1 ≤ a) (hb : -1 ≤ b) (hc : -1 ≤ c) : mostF max (mostF max a b) c = mostF max a (mostF max b c) := by
  unfold mostF
  repeat' split
  all_goals omega
theorem most_max_self (a : Int) : mostF max a a = a := by unfold mostF; split <;> omega
theorem En.ge {x : Ex} (h : En x) : -1 ≤ x.m := by rcases h.m with e | e; omega; have := e.1; omega
theorem or_en {x y : Ex} (hx : En x) (hy : En y) : En (orF x y) := by
  unfold orF
  split
  · split
    · refine ⟨?_, ?_, fun e => by cases e⟩
      · have := hx.l; have := hy.l; unfold Sm at *; show 0 ≤ min _ _ ∧ min _ _ ≤ _; omega
      · show mostF max x.m y.m = -1 ∨ Sm (mostF max x.m y.m)
        have := hx.m; have := hy.m; unfold Sm mostF at *; split <;> omega
    · exact hx
  · exact hy
theorem or_comm' {x y : Ex} (hx : En x) (hy : En y) : orF x y = orF y x := by
  unfold orF
  cases h1 : x.a <;> cases h2 : y.a
  · rw [hx.none h1, hy.none h2]
  · rfl
  · rfl
  · simp [Int.min_comm, most_max_comm]
theorem or_assoc' {x y z : Ex} (hx : En x) (hy : En y) (hz : En z) : orF (orF x y) z = orF x (orF y z) := by
  unfold orF
  cases h1 : x.a <;> cases h2 : y.a <;> cases h3 : z.a <;> simp [h1, h2, h3, Int.min_assoc, most_max_assoc hx.ge hy.ge hz.ge]
theorem or_self' {x : Ex} : orF x x = x := by
  unfold orF
  cases h : x.a with
  | false => rfl
  | true => cases x; simp_all [most_max_self]
theorem none_or (y : Ex) : orF ⟨0, 0, false⟩ y = y := rfl
theorem or_none {x : Ex} (hx : En x) : orF x ⟨0, 0, false⟩ = x := by
  unfold orF
  cases h : x.a with
  | false => rw [hx.none h]; rfl
  | true => rfl
end Sp
end Go.Proofs.Ytkljagffccommaa

/- A term made simpler has the extent that it had: pure. -/
namespace Go.Proofs.Ytkljagffccommaa
open Go.RowKit
namespace Sp
/-- repeats' numbers within bounds; kinds that are kinds -/
inductive Rg : Tm → Prop
  | mk (op : Int) (f : Nat → Bool) (lo hi : Int) (ks : List Tm) (h1 : 1 ≤ op ∧ op ≤ 9) (h8 : op = 8 → (0 ≤ lo ∧ lo ≤ 200) ∧ (-1 ≤ hi ∧ hi ≤ 200) ∧ (0 ≤ hi → lo ≤ hi)) (hk : ∀ k ∈ ks, Rg k) : Rg (.mk op f lo hi ks)
theorem Rg.kids {t : Tm} (h : Rg t) : ∀ k ∈ kidsOf t, Rg k := by cases h with | mk _ _ _ _ _ _ _ hk => exact hk
theorem Rg.join (f : Nat → Bool) {t : Tm} (h : Rg t) : Rg (joinK f t) := by
  by_cases e : opOf t = 2
  · obtain ⟨op, g, lo, hi, ks⟩ := t
    obtain rfl : op = 2 := e
    rw [joinK_set]
    exact .mk _ _ _ _ _ (by omega) (fun x => absurd x (by omega)) h.kids
  · rw [joinK_no f t e]; exact h
theorem Rg.lf (op : Int) (h : op = 1 ∨ op = 9) : Rg (lfT op) := .mk _ _ _ _ _ (by omega) (fun x => absurd x (by omega)) fun k hk => by cases hk
theorem rg_flat6 {s : Tm} (h : Rg s) : ∀ x ∈ flat6 s, Rg x := by
  intro x hx
  unfold flat6 at hx
  split at hx
  · exact h.kids x hx
  · split at hx
    · cases hx
    · rw [List.mem_singleton] at hx; rw [hx]; exact h
theorem rg_flat7 {s : Tm} (h : Rg s) : ∀ x ∈ flat7 s, Rg x := by
  intro x hx
  unfold flat7 at hx
  split at hx
  · exact h.kids x hx
  · split at hx
    · cases hx
    · rw [List.mem_singleton] at hx; rw [hx]; exact h
theorem rg_around {op : Int} (hop : op = 6 ∨ op = 7) {l : List Tm} (h : ∀ x ∈ l, Rg x) {no : Int} (hno : no = 1 ∨ no = 9) : Rg (around op l no) := by
  rcases l with _ | ⟨a, _ | ⟨b, r⟩⟩
  · exact .lf _ hno
  · exact h a (by simp)
  · exact .mk _ _ _ _ _ (by omega) (fun x => absurd x (by omega)) h
theorem sim_rg (t : Tm) : Wl t → Rg t → Rg (simT t) := by
  induction t using Tm.ind with
  | h op f lo hi ks ih =>
    intro h g
    have g0 := g
    cases h with
    | mk _ _ _ _ _ hl h8 hk =>
    cases g with
    | mk _ _ _ _ _ g1 g8 gk =>
    have hN : ∀ x ∈ simL ks, Rg x := fun x hx => by
      rw [simL_map] at hx
      obtain ⟨k, hm, rfl⟩ := List.mem_map.1 hx
      exact ih k hm (hk k hm) (gk k hm)
    rw [simT]
    unfold leafS
    split
    · unfold sCat
      split
      · exact .lf _ (.inr rfl)
      · exact rg_around (.inl rfl) (fun x hx => by
          obtain ⟨s, hs, hx⟩ := List.mem_flatMap.1 hx
          exact rg_flat6 (hN s hs) x hx) (.inl rfl)
    · split
      · unfold sAlt
        refine rg_around (.inr rfl) ?_ (.inr rfl)
        apply norm_all (P := Rg) (fun f t h => h.join f) _ _ (fun x hx => by cases hx)
        intro x hx
        obtain ⟨s, hs, hx⟩ := List.mem_flatMap.1 hx
        exact rg_flat7 (hN s hs) x hx
      · split
        · exact .lf _ (.inr rfl)
        · split
          · rename_i e8
            obtain ⟨k, rfl⟩ : ∃ k, ks = [k] := by
              have := h8 e8
              rcases ks with _ | ⟨k, _ | ⟨_, _⟩⟩
              · cases this
              · exact ⟨k, rfl⟩
              · simp at this
            have hk1 : Rg (simT k) := hN _ (by rw [simL, simL]; simp)
            rw [simL, simL]
            show Rg (sRep f lo hi (simT k))
            unfold sRep
            repeat' split
            · exact .lf _ (.inl rfl)
            · exact .lf _ (.inl rfl)
            · exact hk1
            · exact hk1
            · exact .mk _ _ _ _ _ (by omega) (fun _ => g8 e8) fun x hx => by rw [List.mem_singleton] at hx; rw [hx]; exact hk1
          · exact g0
theorem catX_fold : ∀ (l : List Tm) (x : Ex), catX l x = (l.map spanT).foldl thenF x
  | [], _ => rfl
  | k :: r, x => by rw [catX, catX_fold r, List.map_cons, List.foldl_cons]
theorem altX_fold : ∀ (l : List Tm) (x : Ex), altX l x = (l.map spanT).foldl orF x
  | [], _ => rfl
  | k :: r, x => by rw [altX, altX_fold r, List.map_cons, List.foldl_cons]
def EnL (l : List Ex) : Prop := ∀ x ∈ l, En x
theorem fold_then_en : ∀ (l : List Ex) (x : Ex), EnL l → En x → En (l.foldl thenF x)
  | [], _, _, h => h
  | k :: r, x, hl, h => fold_then_en r _ (fun y hy => hl y (by simp [hy])) (then_en h (hl k (by simp)))
theorem fold_or_en : ∀ (l : List Ex) (x : Ex), EnL l → En x → En (l.foldl orF x)
  | [], _, _, h => h
  | k :: r, x, hl, h => fold_or_en r _ (fun y hy => hl y (by simp [hy])) (or_en h (hl k (by simp)))
theorem fold_then : ∀ (l : List Ex) (x : Ex), EnL l → En x → l.foldl thenF x = thenF x (l.foldl thenF ⟨0, 0, true⟩)
  | [], x, _, h => (then_one h).symm
  | k :: r, x, hl, h => by
    have hk := hl k (by simp)
    have hr : EnL r := fun y hy => hl y (by simp [hy])
    rw [List.foldl_cons, List.foldl_cons, fold_then r _ hr (then_en h hk), one_then hk, fold_then r k hr hk]
    exact then_assoc h hk (fold_then_en r _ hr (en0 true))
theorem fold_or : ∀ (l : List Ex) (x v : Ex), EnL l → En x → En v → l.foldl orF (orF x v) = orF (l.foldl orF x) v
  | [], _, _, _, _, _ => rfl
  | k :: r, x, v, hl, hx, hv => by
    have hk := hl k (by simp)
    have hr : EnL r := fun y hy => hl y (by simp [hy])
    rw [List.foldl_cons, List.foldl_cons, or_assoc' hx hv hk, or_comm' hv hk, ← or_assoc' hx hk hv]
    exact fold_or r _ v hr (or_en hx hk) hv
theorem fold_then_none : ∀ (l : List Ex) (x : Ex), (∃ y ∈ l, y.a = false) → l.foldl thenF x = ⟨0, 0, false⟩
  | [], _, h => by obtain ⟨y, hy, _⟩ := h; cases hy
  | k :: r, x, h => by
    rw [List.foldl_cons]
    by_cases e : ∃ y ∈ r, y.a = false
    · exact fold_then_none r _ e
    · obtain ⟨y, hy, ey⟩ := h
      rcases List.mem_cons.1 hy with rfl | hy
      · rw [then_none x _ ey]
        clear e
        induction r with
        | nil => rfl
        | cons a r ih => rw [List.foldl_cons]; exact ih (by simp)
      · exact absurd ⟨y, hy, ey⟩ e
theorem times_sm {a b : Int} (ha : Sm a) (hb : 0 ≤ b) : Sm (timesF a b) := by
  unfold Sm timesF at *
  have := Int.mul_nonneg ha.1 hb
  split <;> omega
theorem repeat_en {x : Ex} (hx : En x) {lo hi : Int} (hlo : 0 ≤ lo) (hhi : -1 ≤ hi) : En (repeatF x lo hi) := by
  unfold repeatF
  split
  · refine ⟨times_sm hx.l hlo, ?_, fun e => by cases e⟩
    show (if x.m = 0 ∨ hi = 0 then 0 else mostF timesF x.m hi) = -1 ∨ Sm _
    split
    · exact .inr (en0 true).l
    · unfold mostF
      split
      · exact .inl rfl
      · rename_i h
        exact .inr (times_sm (hx.m.resolve_left fun e => h (.inl e)) (by omega))
  · exact en0 _
theorem span_en (t : Tm) : Rg t → En (spanT t) := by
  induction t using Tm.ind with
  | h op f lo hi ks ih =>
    intro h
    cases h with
    | mk _ _ _ _ _ h1 h8 hk =>
    have hL : EnL (ks.map spanT) := fun x hx => by
      obtain ⟨k, hm, rfl⟩ := List.mem_map.1 hx
      exact ih k hm (hk k hm)
    rw [spanT]
    split
    · exact en0 _
    · split
      · exact en1
      · split
        · split
          · exact en0 _
          · exact en1
        · split
          · rw [catX_fold]; exact fold_then_en _ _ hL (en0 _)
          · split
            · rw [altX_fold]; exact fold_or_en _ _ hL (en0 _)
            · split
              · rename_i e8
                rcases ks with _ | ⟨k, _ | ⟨_, _⟩⟩
                · rw [repX.eq_def]; exact en0 _
                · rw [repX]; exact repeat_en (ih k (by simp) (hk k (by simp))) (h8 e8).1.1 (h8 e8).2.1.1
                · rw [repX.eq_def]; exact en0 _
              · exact en0 _
end Sp
end Go.Proofs.Ytkljagffccommaa

/- A term made simpler has the extent that it had, second part: pure. -/
namespace Go.Proofs.Ytkljagffccommaa
open Go.RowKit
namespace Sp
theorem span_six (f : Nat → Bool) (lo hi : Int) (l : List Tm) : spanT (.mk 6 f lo hi l) = (l.map spanT).foldl thenF ⟨0, 0, true⟩ := by
  rw [spanT, if_neg (by omega), if_neg (by omega), if_neg (by omega), if_pos rfl, catX_fold]
theorem span_seven (f : Nat → Bool) (lo hi : Int) (l : List Tm) : spanT (.mk 7 f lo hi l) = (l.map spanT).foldl orF ⟨0, 0, false⟩ := by
  rw [spanT, if_neg (by omega), if_neg (by omega), if_neg (by omega), if_neg (by omega), if_pos rfl, altX_fold]
theorem span_eight (f : Nat → Bool) (lo hi : Int) (k : Tm) : spanT (.mk 8 f lo hi [k]) = repeatF (spanT k) lo hi := by
  rw [spanT, if_neg (by omega), if_neg (by omega), if_neg (by omega), if_neg (by omega), if_neg (by omega), if_pos rfl, repX]
theorem span_one {t : Tm} (h : opOf t = 1) : spanT t = ⟨0, 0, true⟩ := by
  obtain ⟨op, f, lo, hi, ks⟩ := t
  obtain rfl : op = 1 := h
  rw [spanT, if_pos (by omega)]
theorem span_nine {t : Tm} (h : opOf t = 9) : spanT t = ⟨0, 0, false⟩ := by
  obtain ⟨op, f, lo, hi, ks⟩ := t
  obtain rfl : op = 9 := h
  rw [spanT, if_neg (by omega), if_neg (by omega), if_neg (by omega), if_neg (by omega), if_neg (by omega), if_neg (by omega)]
def setX (f : Nat → Bool) : Ex := if eqK f noF then ⟨0, 0, false⟩ else ⟨1, 1, true⟩
theorem setX_en (f : Nat → Bool) : En (setX f) := by unfold setX; split; exact en0 _; exact en1
theorem span_set {t : Tm} (h : opOf t = 2) : spanT t = setX (setOf t) := by
  obtain ⟨op, f, lo, hi, ks⟩ := t
  obtain rfl : op = 2 := h
  rw [spanT, if_neg (by omega), if_neg (by omega), if_pos rfl]
  rfl
theorem setX_or (g f : Nat → Bool) : setX (fun i => g i || f i) = orF (setX g) (setX f) := by
  have key : eqK (fun i => g i || f i) noF = (eqK g noF && eqK f noF) := by
    rw [Bool.eq_iff_iff, Bool.and_eq_true, eqK_iff, eqK_iff, eqK_iff]
    constructor
    · intro h
      exact ⟨fun i hi => (Bool.or_eq_false_iff.1 (h i hi)).1, fun i hi => (Bool.or_eq_false_iff.1 (h i hi)).2⟩
    · rintro ⟨h1, h2⟩ i hi
      exact Bool.or_eq_false_iff.2 ⟨h1 i hi, h2 i hi⟩
  unfold setX
  rw [key]
  cases eqK g noF <;> cases eqK f noF <;> simp [orF, mostF]
theorem span_join (f : Nat → Bool) {t : Tm} (h : opOf t = 2) : spanT (joinK f t) = orF (spanT t) (setX f) := by
  obtain ⟨op, g, lo, hi, ks⟩ := t
  obtain rfl : op = 2 := h
  rw [joinK_set, span_set rfl, span_set rfl]
  exact setX_or g f
mutual
theorem span_same : ∀ (a b : Tm), sameT a b = true → spanT a = spanT b
  | .mk op f lo hi ks, .mk op' f' lo' hi' ks', h => by
    obtain ⟨rfl, h1, rfl, rfl, h2⟩ := (sameT_mk ..).1 h
    have e := spans_same ks ks' h2
    have e1 : eqK f noF = eqK f' noF := by
      rw [Bool.eq_iff_iff, eqK_iff, eqK_iff]
      have := (eqK_iff f f').1 h1
      constructor
      · intro g i hi; rw [← this i hi]; exact g i hi
      · intro g i hi; rw [this i hi]; exact g i hi
    have e2 : repX ks lo hi = repX ks' lo hi := by
      rcases ks with _ | ⟨k, _ | ⟨_, _⟩⟩ <;> rcases ks' with _ | ⟨k', _ | ⟨_, _⟩⟩ <;> simp at e <;> simp [repX, e]
    rw [spanT, spanT, catX_fold, catX_fold, altX_fold, altX_fold, e, e1, e2]
theorem spans_same : ∀ (a b : List Tm), sameL a b = true → a.map spanT = b.map spanT
  | [], [], _ => rfl
  | [], _ :: _, h => by simp [sameL] at h
  | _ :: _, [], h => by simp [sameL] at h
  | x :: a, y :: b, h => by
    rw [sameL, Bool.and_eq_true] at h
    rw [List.map_cons, List.map_cons, span_same x y h.1, spans_same a b h.2]
end
def RgL (l : List Tm) : Prop := ∀ x ∈ l, Rg x
theorem RgL.en {l : List Tm} (h : RgL l) : EnL (l.map spanT) := fun x hx => by
  obtain ⟨k, hm, rfl⟩ := List.mem_map.1 hx
  exact span_en k (h k hm)
def orX (l : List Tm) : Ex := (l.map spanT).foldl orF ⟨0, 0, false⟩
theorem orX_en {l : List Tm} (h : RgL l) : En (orX l) := fold_or_en _ _ h.en (en0 _)
theorem orX_push {o : List Tm} (ho : RgL o) (h1 : Few1 o) {k : Tm} (hk : Rg k) : orX (push o k) = orF (orX o) (spanT k) := by
  have hv := span_en k hk
  have e1 : orX (o ++ [k]) = orF (orX o) (spanT k) := by unfold orX; rw [List.map_append, List.foldl_append]; rfl
  by_cases h : opOf k = 2
  · rw [push_set _ h]
    split
    · rename_i hs
      rcases h1 with h1 | ⟨a, s, b, rfl, ha, hs2, hb⟩
      · rw [noS_any.1 h1] at hs; cases hs
      · have ha' : RgL a := fun x hx => ho x (by simp [hx])
        have hb' : RgL b := fun x hx => ho x (by simp [hx])
        have hs' : Rg s := ho s (by simp)
        have hA := orX_en ha'
        rw [List.map_append, List.map_cons, map_noS _ ha, map_noS _ hb, span_set h]
        rw [span_set h] at hv
        unfold orX at hA ⊢
        rw [List.map_append, List.foldl_append, List.map_cons, List.foldl_cons, List.map_append, List.foldl_append, List.map_cons, List.foldl_cons, span_join _ hs2, ← or_assoc' hA (span_en s hs') hv]
        exact fold_or _ _ _ hb'.en (or_en hA (span_en s hs')) hv
    · exact e1
  · rw [push_no _ h]
    split
    · rename_i hs
      obtain ⟨x, hx, e⟩ := List.any_eq_true.1 hs
      obtain ⟨a, b, rfl⟩ := List.append_of_mem hx
      have ha' : RgL a := fun x hx => ho x (by simp [hx])
      have hb' : RgL b := fun x hx => ho x (by simp [hx])
      have hA := orX_en ha'
      rw [← span_same x k e]
      have hx' := span_en x (ho x hx)
      unfold orX at hA ⊢
      rw [List.map_append, List.foldl_append, List.map_cons, List.foldl_cons, ← fold_or _ _ _ hb'.en (or_en hA hx') hx', or_assoc' hA hx' hx', or_self']
    · exact e1
theorem rg_push {o : List Tm} (ho : RgL o) {k : Tm} (hk : Rg k) : RgL (push o k) := push_all (P := Rg) (fun f t h => h.join f) ho hk
theorem orX_norm (l : List Tm) : ∀ o : List Tm, RgL o → Few1 o → RgL l → orX (norm o l) = (l.map spanT).foldl orF (orX o) := by
  induction l with
  | nil => intro o _ _ _; rfl
  | cons a r ih =>
    intro o ho h1 hl
    have ha := hl a (by simp)
    rw [norm_cons, ih _ (rg_push ho ha) (h1.push a) (fun x hx => hl x (by simp [hx])), orX_push ho h1 ha, List.map_cons, List.foldl_cons]
theorem flat6_span {s : Tm} (h : Rg s) {x : Ex} (hx : En x) : ((flat6 s).map spanT).foldl thenF x = thenF x (spanT s) := by
  unfold flat6
  split
  · rename_i e
    obtain ⟨op, f, lo, hi, ks⟩ := s
    obtain rfl : op = 6 := e
    rw [span_six]
    exact fold_then _ _ (RgL.en h.kids) hx
  · split
    · rename_i e
      rw [span_one e]; exact (then_one hx).symm
    · rfl
theorem flat7_span {s : Tm} (h : Rg s) {x : Ex} (hx : En x) : ((flat7 s).map spanT).foldl orF x = orF x (spanT s) := by
  unfold flat7
  split
  · rename_i e
    obtain ⟨op, f, lo, hi, ks⟩ := s
    obtain rfl : op = 7 := e
    rw [span_seven]
    have hk : EnL (ks.map spanT) := RgL.en h.kids
    show (ks.map spanT).foldl orF x = _
    have := fold_or (ks.map spanT) ⟨0, 0, false⟩ x hk (en0 _) hx
    rw [none_or] at this
    rw [this, or_comm' (fold_or_en _ _ hk (en0 _)) hx]
  · split
    · rename_i e
      rw [span_nine e]; exact (or_none hx).symm
    · rfl
theorem flats6 : ∀ (l : List Tm) (x : Ex), RgL l → En x → ((l.flatMap flat6).map spanT).foldl thenF x = (l.map spanT).foldl thenF x
  | [], _, _, _ => rfl
  | s :: r, x, hl, hx => by
    have hs := hl s (by simp)
    rw [List.flatMap_cons, List.map_append, List.foldl_append, flat6_span hs hx, flats6 r _ (fun y hy => hl y (by simp [hy])) (then_en hx (span_en s hs)), List.map_cons, List.foldl_cons]
theorem flats7 : ∀ (l : List Tm) (x : Ex), RgL l → En x → ((l.flatMap flat7).map spanT).foldl orF x = (l.map spanT).foldl orF x
  | [], _, _, _ => rfl
  | s :: r, x, hl, hx => by
    have hs := hl s (by simp)
    rw [List.flatMap_cons, List.map_append, List.foldl_append, flat7_span hs hx, flats7 r _ (fun y hy => hl y (by simp [hy])) (or_en hx (span_en s hs)), List.map_cons, List.foldl_cons]
theorem around6_span {l : List Tm} (h : RgL l) : spanT (around 6 l 1) = (l.map spanT).foldl thenF ⟨0, 0, true⟩ := by
  rcases l with _ | ⟨a, _ | ⟨b, r⟩⟩
  · exact span_one rfl
  · exact (one_then (span_en a (h a (by simp)))).symm
  · exact span_six _ _ _ _
theorem around7_span {l : List Tm} : spanT (around 7 l 9) = orX l := by
  rcases l with _ | ⟨a, _ | ⟨b, r⟩⟩
  · exact span_nine rfl
  · rfl
  · exact span_seven _ _ _ _
theorem times_zero (a : Int) : timesF a 0 = 0 := by unfold timesF; rw [Int.mul_zero]; rfl
theorem zero_times (a : Int) : timesF 0 a = 0 := by unfold timesF; rw [Int.zero_mul]; rfl
theorem times_one {a : Int} (h : Sm a) : timesF a 1 = a := by unfold timesF; rw [Int.mul_one, if_pos h.2]
theorem sml_eight {t : Tm} (h : Sml t) (e : opOf t = 8) : ∃ k, kidsOf t = [k] := by
  cases h with
  | leaf op f lo hi h h2 => exact absurd e h.2.2
  | cat => exact absurd e (by show ¬ (6 : Int) = 8; omega)
  | alt => exact absurd e (by show ¬ (7 : Int) = 8; omega)
  | rep f lo hi k => exact ⟨k, rfl⟩
theorem rep_span {f : Nat → Bool} {lo hi : Int} {k : Tm} (hr : 0 ≤ hi → lo ≤ hi) (hlo : 0 ≤ lo) (hk : Rg k) (hs : Sml k) : spanT (sRep f lo hi k) = repeatF (spanT k) lo hi := by
  have hen := span_en k hk
  unfold sRep
  split
  · rename_i h
    rw [span_one rfl]
    rcases h with h | h
    · obtain rfl := h
      obtain rfl : lo = 0 := by have := hr (by omega); omega
      unfold repeatF
      rw [times_zero]
      simp
    · rw [span_one h]; unfold repeatF; simp [zero_times]
  · rename_i n1
    split
    · rename_i h9
      rw [span_nine h9]
      unfold repeatF
      split
      · rename_i h; rw [span_one rfl]; simp [h]
      · rename_i h; rw [span_nine h9]; simp [h]
    · split
      · rename_i h
        rcases h with ⟨rfl, rfl⟩ | h
        · unfold repeatF
          cases e : (spanT k).a with
          | false => rw [hen.none e]; rfl
          | true =>
            have hm : (if (spanT k).m = 0 ∨ (1 : Int) = 0 then 0 else mostF timesF (spanT k).m 1) = (spanT k).m := by
              by_cases e0 : (spanT k).m = 0
              · rw [if_pos (.inl e0), e0]
              · rw [if_neg (by omega)]
                unfold mostF
                by_cases e1 : (spanT k).m = -1
                · rw [if_pos (.inl e1), e1]
                · rw [if_neg (by omega), times_one (hen.m.resolve_left e1)]
            rw [hm, times_one hen.l, if_pos rfl, ← e]
        · obtain ⟨op, f', lo', hi', ks⟩ := k
          obtain ⟨rfl, rfl, rfl⟩ : op = 8 ∧ lo' = 0 ∧ hi' = -1 := of_decide_eq_true h
          obtain ⟨k', rfl⟩ : ∃ k', ks = [k'] := sml_eight hs rfl
          rw [span_eight]
          have hhi : hi ≠ 0 := fun e => n1 (.inl e)
          unfold repeatF
          cases e : (spanT k').a with
          | false => simp [zero_times]
          | true =>
            by_cases e0 : (spanT k').m = 0
            · simp [e0, zero_times, times_zero]
            · simp [e0, zero_times, times_zero, mostF, hhi]
      · exact span_eight _ _ _ _
theorem sim_span (t : Tm) : Wl t → Rg t → spanT (simT t) = spanT t := by
  induction t using Tm.ind with
  | h op f lo hi ks ih =>
    intro h g
    have h0 := h
    cases h with
    | mk _ _ _ _ _ hl h8 hk =>
    cases g with
    | mk _ _ _ _ _ g1 g8 gk =>
    have hR : RgL (simL ks) := fun x hx => by
      rw [simL_map] at hx
      obtain ⟨k, hm, rfl⟩ := List.mem_map.1 hx
      exact sim_rg k (hk k hm) (gk k hm)
    have hE : (simL ks).map spanT = ks.map spanT := by
      rw [simL_map, List.map_map]
      exact List.map_congr_left fun k hm => ih k hm (hk k hm) (gk k hm)
    rw [simT]
    unfold leafS
    split
    · rename_i e; subst e
      rw [span_six, ← hE]
      unfold sCat
      split
      · rename_i hn
        rw [span_nine rfl]
        obtain ⟨x, hx, e⟩ := List.any_eq_true.1 hn
        exact (fold_then_none _ _ ⟨spanT x, List.mem_map_of_mem hx, by rw [span_nine ((isNo_iff x).1 e)]⟩).symm
      · rw [around6_span fun x hx => by
          obtain ⟨s, hs, hx⟩ := List.mem_flatMap.1 hx
          exact rg_flat6 (hR s hs) x hx]
        exact flats6 _ _ hR (en0 _)
    · split
      · rename_i e; subst e
        rw [span_seven, ← hE]
        unfold sAlt
        have hF : RgL ((simL ks).flatMap flat7) := fun x hx => by
          obtain ⟨s, hs, hx⟩ := List.mem_flatMap.1 hx
          exact rg_flat7 (hR s hs) x hx
        rw [around7_span, orX_norm _ [] (fun x hx => by cases hx) (.inl fun x hx => by cases hx) hF]
        exact flats7 _ _ hR (en0 _)
      · split
        · rename_i e
          obtain ⟨rfl, e⟩ := e
          rw [span_nine rfl, span_set rfl]
          show _ = setX f
          unfold setX
          rw [if_pos e]
        · split
          · rename_i e; subst e
            obtain ⟨k, rfl⟩ : ∃ k, ks = [k] := by
              have := h8 rfl
              rcases ks with _ | ⟨k, _ | ⟨_, _⟩⟩
              · cases this
              · exact ⟨k, rfl⟩
              · simp at this
            rw [simL, simL, span_eight]
            show spanT (sRep f lo hi (simT k)) = _
            have hk1 := hk k (by simp)
            have gk1 := gk k (by simp)
            rw [rep_span (g8 rfl).2.2 (g8 rfl).1.1 (sim_rg k hk1 gk1) (sim_sn k hk1), ih k (by simp) hk1 gk1]
          · rfl
end Sp
end Go.Proofs.Ytkljagffccommaa

/- A term made simpler is right, matches something if it did, and has no more positions: pure. -/
namespace Go.Proofs.Ytkljagffccommaa
open Go.RowKit
namespace Sp
/-- right, but for what matches nothing at all -/
inductive Rn : Tm → Prop
  | mk (op : Int) (f : Nat → Bool) (lo hi : Int) (ks : List Tm) (h1 : 1 ≤ op ∧ op ≤ 9) (hl : op < 6 ∨ op = 9 → ks = []) (h2 : op = 6 ∨ op = 7 → 2 ≤ ks.length) (h8 : op = 8 → ks.length = 1)
      (hn : op ≠ 8 → lo = 0 ∧ hi = 0) (hs : op ≠ 2 → eqK f noF = true) (hb : op = 8 → bndOk lo hi) (hk : ∀ k ∈ ks, Rn k) : Rn (.mk op f lo hi ks)
theorem woL_map : ∀ ks, woL ks = ks.map woT
  | [] => rfl
  | k :: r => by rw [woL, woL_map r]; rfl
theorem rn_of (t : Tm) : rightT (woT t) = true → Rn t := by
  induction t using Tm.ind with
  | h op f lo hi ks ih =>
    intro h
    rw [woT] at h
    split at h
    · rename_i e; subst e
      have R := right_is h
      have hks : ks = [] := R.leaf (by omega)
      subst hks
      exact .mk _ _ _ _ _ (by omega) (fun _ => rfl) (fun x => by omega) (fun x => by omega) (fun _ => R.num (by omega)) (fun _ => R.set (by omega)) (fun x => by omega) fun k hk => by cases hk
    · rename_i e
      have R := right_is h
      have o1 := R.op1
      have o8 := R.op8
      have hlen : (woL ks).length = ks.length := by rw [woL_map, List.length_map]
      refine .mk _ _ _ _ _ (by omega) (fun x => ?_) (fun x => by rw [← hlen]; exact R.two x) (fun x => by rw [← hlen]; exact R.rep x) R.num R.set R.bnd fun k hk => ?_
      · have := R.leaf (by omega)
        rw [← List.length_eq_zero_iff, ← hlen, this]; rfl
      · exact ih k hk (R.kids _ (by rw [woL_map]; exact List.mem_map_of_mem hk))
theorem rn_to {t : Tm} (h : Rn t) : rightT (woT t) = true := by
  induction h with
  | mk op f lo hi ks h1 hl h2 h8 hn hs hb hk ih =>
    rw [woT]
    split
    · rename_i e; subst e
      have hks := hl (.inr rfl)
      subst hks
      apply right_mk
      exact ⟨by omega, by omega, fun _ => rfl, fun x => by omega, fun x => by omega, fun _ => hn (by omega), fun _ => hs (by omega), fun x => by omega, fun k hk => by cases hk⟩
    · apply right_mk
      have hlen : (woL ks).length = ks.length := by rw [woL_map, List.length_map]
      refine ⟨by omega, by omega, fun x => by rw [hl (.inl x)]; rfl, fun x => by rw [hlen]; exact h2 x, fun x => by rw [hlen]; exact h8 x, hn, hs, hb, fun k hk => ?_⟩
      rw [woL_map] at hk
      obtain ⟨y, hy, rfl⟩ := List.mem_map.1 hk
      exact ih y hy
theorem Rn.wl {t : Tm} (h : Rn t) : Wl t := by
  induction h with
  | mk op f lo hi ks h1 hl h2 h8 hn hs hb hk ih => exact .mk _ _ _ _ _ (fun a b c => hl (by omega)) h8 ih
theorem Rn.rg {t : Tm} (h : Rn t) : Rg t := by
  induction h with
  | mk op f lo hi ks h1 hl h2 h8 hn hs hb hk ih =>
    refine .mk _ _ _ _ _ h1 (fun e => ?_) ih
    have := hb e
    unfold bndOk at this
    omega
theorem Rn.kids {t : Tm} (h : Rn t) : ∀ k ∈ kidsOf t, Rn k := by cases h with | mk _ _ _ _ _ _ _ _ _ _ _ _ hk => exact hk
theorem eqk_no : eqK noF noF = true := (eqK_iff _ _).2 fun _ _ => rfl
theorem Rn.lf (op : Int) (h : op = 1 ∨ op = 9) : Rn (lfT op) := .mk _ _ _ _ _ (by omega) (fun _ => rfl) (fun x => by omega) (fun x => by omega) (fun _ => ⟨rfl, rfl⟩) (fun _ => eqk_no) (fun x => by omega) fun k hk => by cases hk
theorem Rn.join (f : Nat → Bool) {t : Tm} (h : Rn t) : Rn (joinK f t) := by
  by_cases e : opOf t = 2
  · cases h with
    | mk op g lo hi ks h1 hl h2 h8 hn hs hb hk =>
    obtain rfl : op = 2 := e
    rw [joinK_set]
    exact .mk _ _ _ _ _ h1 hl (fun x => by omega) (fun x => by omega) hn (fun x => absurd rfl x) (fun x => by omega) hk
  · rw [joinK_no f t e]; exact h
theorem rn_flat6 {s : Tm} (h : Rn s) : ∀ x ∈ flat6 s, Rn x := by
  intro x hx
  unfold flat6 at hx
  split at hx
  · exact h.kids x hx
  · split at hx
    · cases hx
    · rw [List.mem_singleton] at hx; rw [hx]; exact h
theorem rn_flat7 {s : Tm} (h : Rn s) : ∀ x ∈ flat7 s, Rn x := by
  intro x hx
  unfold flat7 at hx
  split at hx
  · exact h.kids x hx
  · split at hx
    · cases hx
    · rw [List.mem_singleton] at hx; rw [hx]; exact h
theorem rn_around {op : Int} (hop : op = 6 ∨ op = 7) {l : List Tm} (h : ∀ x ∈ l, Rn x) {no : Int} (hno : no = 1 ∨ no = 9) : Rn (around op l no) := by
  rcases l with _ | ⟨a, _ | ⟨b, r⟩⟩
  · exact .lf _ hno
  · exact h a (by simp)
  · exact .mk _ _ _ _ _ (by omega) (fun x => by omega) (fun _ => by simp) (fun x => by omega) (fun _ => ⟨rfl, rfl⟩) (fun _ => eqk_no) (fun x => by omega) h
theorem sim_rn {t : Tm} (h : Rn t) : Rn (simT t) := by
  induction h with
  | mk op f lo hi ks h1 hl h2 h8 hn hs hb hk ih =>
    have hN : ∀ x ∈ simL ks, Rn x := fun x hx => by
      rw [simL_map] at hx
      obtain ⟨k, hm, rfl⟩ := List.mem_map.1 hx
      exact ih k hm
    rw [simT]
    unfold leafS
    split
    · unfold sCat
      split
      · exact .lf _ (.inr rfl)
      · exact rn_around (.inl rfl) (fun x hx => by
          obtain ⟨s, hs, hx⟩ := List.mem_flatMap.1 hx
          exact rn_flat6 (hN s hs) x hx) (.inl rfl)
    · split
      · unfold sAlt
        refine rn_around (.inr rfl) ?_ (.inr rfl)
        apply norm_all (P := Rn) (fun f t h => h.join f) _ _ (fun x hx => by cases hx)
        intro x hx
        obtain ⟨s, hs, hx⟩ := List.mem_flatMap.1 hx
        exact rn_flat7 (hN s hs) x hx
      · split
        · exact .lf _ (.inr rfl)
        · split
          · rename_i e8
            obtain ⟨k, rfl⟩ : ∃ k, ks = [k] := by
              have := h8 e8
              rcases ks with _ | ⟨k, _ | ⟨_, _⟩⟩
              · cases this
              · exact ⟨k, rfl⟩
              · simp at this
            have hk1 : Rn (simT k) := hN _ (by rw [simL, simL]; simp)
            rw [simL, simL]
            show Rn (sRep f lo hi (simT k))
            unfold sRep
            repeat' split
            · exact .lf _ (.inl rfl)
            · exact .lf _ (.inl rfl)
            · exact hk1
            · exact hk1
            · subst e8
              exact .mk _ _ _ _ _ (by omega) (fun x => by omega) (fun x => by omega) (fun _ => rfl) (fun x => absurd rfl x) hs hb fun x hx => by rw [List.mem_singleton] at hx; rw [hx]; exact hk1
          · exact .mk _ _ _ _ _ h1 hl h2 h8 hn hs hb hk
/-- the answer of Right stays -/
theorem sim_right (t : Tm) (h : rightT (woT t) = true) : rightT (woT (simT t)) = true := rn_to (sim_rn (rn_of t h))
/-- what is simple and matches nothing is nothing at all -/
theorem sml_any {t : Tm} (hs : Sml t) : Rg t → opOf t ≠ 9 → (spanT t).a = true := by
  induction hs with
  | leaf op f lo hi h h2 =>
    intro hr h9
    have h9' : op ≠ 9 := h9
    cases hr with
    | mk _ _ _ _ _ h1 _ _ =>
    rw [spanT]
    split
    · rfl
    · split
      · rfl
      · split
        · rename_i e; rw [h2 e]; rfl
        · omega
  | cat ks h2 ho _ ih =>
    intro hr _
    rw [span_six]
    have : ∀ (l : List Tm) (x : Ex), (∀ k ∈ l, (spanT k).a = true) → x.a = true → ((l.map spanT).foldl thenF x).a = true := by
      intro l
      induction l with
      | nil => exact fun _ _ h => h
      | cons a r ihl =>
        intro x hl hx
        rw [List.map_cons, List.foldl_cons]
        refine ihl _ (fun k hk => hl k (by simp [hk])) ?_
        unfold thenF
        rw [hx, hl a (by simp)]; rfl
    exact this ks _ (fun k hk => ih k hk (hr.kids k hk) (ho k hk).2.2) rfl
  | alt ks h2 ho _ _ ih =>
    intro hr _
    rw [span_seven]
    have key : ∀ (l : List Tm) (x : Ex), x.a = true → ((l.map spanT).foldl orF x).a = true := by
      intro l
      induction l with
      | nil => exact fun _ h => h
      | cons a r ihl =>
        intro x hx
        rw [List.map_cons, List.foldl_cons]
        refine ihl _ ?_
        unfold orF
        rw [if_pos hx]
        split
        · rfl
        · exact hx
    rcases ks with _ | ⟨a, r⟩
    · simp at h2
    · rw [List.map_cons, List.foldl_cons, none_or]
      exact key r _ (ih a (by simp) (hr.kids a (by simp [kidsOf])) (ho a (by simp)).2)
  | rep f lo hi k h0 h1 ho _ ih =>
    intro hr _
    rw [span_eight]
    unfold repeatF
    rw [if_pos (ih (hr.kids k (by simp [kidsOf])) ho.2.1)]
def copiesF (a b : Int) : Int := if b = -1 then (if a = 0 then 1 else a) else b
mutual
def posT : Tm → Int
  | .mk op _ lo hi ks => if op = 2 ∨ op = 3 then 1 else if op = 8 then timesF (posL ks 0) (copiesF lo hi) else posL ks 0
def posL : List Tm → Int → Int
  | [], n => n
  | k :: r, n => posL r (plusF n (posT k))
end
theorem posL_fold : ∀ (l : List Tm) (n : Int), posL l n = (l.map posT).foldl plusF n
  | [], _ => rfl
  | k :: r, n => by rw [posL, posL_fold r, List.map_cons, List.foldl_cons]
def SmL (l : List Int) : Prop := ∀ x ∈ l, Sm x
theorem fold_plus_sm : ∀ (l : List Int) (n : Int), SmL l → Sm n → Sm (l.foldl plusF n)
  | [], _, _, h => h
  | k :: r, n, hl, h => fold_plus_sm r _ (fun y hy => hl y (by simp [hy])) (plus_sm h (hl k (by simp)))
theorem fold_plus : ∀ (l : List Int) (n : Int), SmL l → Sm n → l.foldl plusF n = plusF n (l.foldl plusF 0)
  | [], n, _, h => (plus_zero h).symm
  | k :: r, n, hl, h => by
    have hk := hl k (by simp)
    have hr : SmL r := fun y hy => hl y (by simp [hy])
    rw [List.foldl_cons, List.foldl_cons, fold_plus r _ hr (plus_sm h hk), zero_plus hk, fold_plus r k hr hk]
    exact plus_assoc h hk (fold_plus_sm r _ hr (en0 true).l)
theorem plus_mono {a b c d : Int} (h : a ≤ c) (g : b ≤ d) : plusF a b ≤ plusF c d := by unfold plusF; repeat' split
                                                                                        all_goals omega
theorem times_mono {a b c : Int} (h : a ≤ b) (hc : 0 ≤ c) : timesF a c ≤ timesF b c := by
  have := Int.mul_le_mul_of_nonneg_right h hc
  unfold timesF; repeat' split
  all_goals omega
theorem times_ge {a c : Int} (h : Sm a) (hc : 1 ≤ c) : a ≤ timesF a c := by
  have h1 : a * 1 ≤ a * c := Int.mul_le_mul_of_nonneg_left hc h.1
  have := h.2
  unfold timesF; split
  all_goals omega
theorem plus_ge {a b : Int} (h : Sm a) (hb : 0 ≤ b) : a ≤ plusF a b := by unfold Sm at h; unfold plusF; split <;> omega
theorem fold_mono : ∀ (l m : List Tm) (n n' : Int), l.length = m.length → (∀ (i : Nat) (a b : Tm), l[i]? = some a → m[i]? = some b → posT a ≤ posT b) → n ≤ n' → (l.map posT).foldl plusF n ≤ (m.map posT).foldl plusF n'
  | [], [], _, _, _, _, h => h
  | [], _ :: _, _, _, h, _, _ => by cases h
  | _ :: _, [], _, _, h, _, _ => by cases h
  | a :: l, b :: m, n, n', hl, h, hn => by
    rw [List.map_cons, List.foldl_cons, List.map_cons, List.foldl_cons]
    exact fold_mono l m _ _ (by simpa using hl) (fun i x y hx hy => h (i + 1) x y hx hy) (plus_mono hn (h 0 a b rfl rfl))
theorem pos_sm (t : Tm) : Rg t → Sm (posT t) := by
  induction t using Tm.ind with
  | h op f lo hi ks ih =>
    intro h
    cases h with
    | mk _ _ _ _ _ h1 h8 hk =>
    have hL : Sm (posL ks 0) := by
      rw [posL_fold]
      exact fold_plus_sm _ _ (fun x hx => by
        obtain ⟨k, hm, rfl⟩ := List.mem_map.1 hx
        exact ih k hm (hk k hm)) (en0 true).l
    rw [posT]
    split
    · exact en1.l
    · split
      · rename_i e
        have := h8 e
        exact times_sm hL (by unfold copiesF; split <;> (try split) <;> omega)
      · exact hL
end Sp
end Go.Proofs.Ytkljagffccommaa

/- A term made simpler has no more positions than before: pure. -/
namespace Go.Proofs.Ytkljagffccommaa
open Go.RowKit
namespace Sp
theorem pos_kids (op : Int) (h : op ≠ 2 ∧ op ≠ 3 ∧ op ≠ 8) (f : Nat → Bool) (lo hi : Int) (ks : List Tm) : posT (.mk op f lo hi ks) = (ks.map posT).foldl plusF 0 := by
  rw [posT, if_neg (by omega), if_neg h.2.2, posL_fold]
theorem pos_eight (f : Nat → Bool) (lo hi : Int) {k : Tm} (h : Sm (posT k)) : posT (.mk 8 f lo hi [k]) = timesF (posT k) (copiesF lo hi) := by
  rw [posT, if_neg (by omega), if_pos rfl, posL, posL, zero_plus h]
theorem pos_set {t : Tm} (h : opOf t = 2) : posT t = 1 := by
  obtain ⟨op, f, lo, hi, ks⟩ := t
  obtain rfl : op = 2 := h
  rw [posT, if_pos (by omega)]
theorem pos_join (f : Nat → Bool) (t : Tm) : posT (joinK f t) = posT t := by
  by_cases e : opOf t = 2
  · rw [pos_set e, pos_set ((joinK_op f t).trans e)]
  · rw [joinK_no f t e]
theorem RgL.sm {l : List Tm} (h : RgL l) : SmL (l.map posT) := fun x hx => by
  obtain ⟨k, hm, rfl⟩ := List.mem_map.1 hx
  exact pos_sm k (h k hm)
def sumP (l : List Tm) : Int := (l.map posT).foldl plusF 0
theorem sumP_sm {l : List Tm} (h : RgL l) : Sm (sumP l) := fold_plus_sm _ _ h.sm (en0 true).l
theorem sumP_push {o : List Tm} (ho : RgL o) {k : Tm} (hk : Rg k) : sumP (push o k) ≤ plusF (sumP o) (posT k) := by
  have hk' := pos_sm k hk
  have e1 : sumP (o ++ [k]) = plusF (sumP o) (posT k) := by unfold sumP; rw [List.map_append, List.foldl_append]; rfl
  have e2 : sumP o ≤ plusF (sumP o) (posT k) := plus_ge (sumP_sm ho) hk'.1
  by_cases h : opOf k = 2
  · rw [push_set _ h]
    split
    · have : sumP (o.map (joinK (setOf k))) = sumP o := by
        unfold sumP
        rw [List.map_map]
        congr 1
        exact List.map_congr_left fun x _ => pos_join _ x
      rw [this]; exact e2
    · exact Int.le_of_eq e1
  · rw [push_no _ h]
    split
    · exact e2
    · exact Int.le_of_eq e1
theorem fold_le : ∀ (l : List Int) (a b : Int), a ≤ b → l.foldl plusF a ≤ l.foldl plusF b
  | [], _, _, h => h
  | k :: r, _, _, h => fold_le r _ _ (plus_mono h (Int.le_refl k))
theorem sumP_norm (l : List Tm) : ∀ o : List Tm, RgL o → RgL l → sumP (norm o l) ≤ (l.map posT).foldl plusF (sumP o) := by
  induction l with
  | nil => intro o _ _; exact Int.le_refl _
  | cons a r ih =>
    intro o ho hl
    have ha := hl a (by simp)
    rw [norm_cons, List.map_cons, List.foldl_cons]
    exact Int.le_trans (ih _ (rg_push ho ha) fun x hx => hl x (by simp [hx])) (fold_le _ _ _ (sumP_push ho ha))
theorem flat6_pos {s : Tm} (h : Rg s) {n : Int} (hn : Sm n) : ((flat6 s).map posT).foldl plusF n ≤ plusF n (posT s) := by
  have hs := pos_sm s h
  unfold flat6
  split
  · rename_i e
    obtain ⟨op, f, lo, hi, ks⟩ := s
    obtain rfl : op = 6 := e
    rw [pos_kids 6 (by omega)]
    exact Int.le_of_eq (fold_plus _ _ (RgL.sm h.kids) hn)
  · split
    · exact plus_ge hn hs.1
    · exact Int.le_refl _
theorem flat7_pos {s : Tm} (h : Rg s) {n : Int} (hn : Sm n) : ((flat7 s).map posT).foldl plusF n ≤ plusF n (posT s) := by
  have hs := pos_sm s h
  unfold flat7
  split
  · rename_i e
    obtain ⟨op, f, lo, hi, ks⟩ := s
    obtain rfl : op = 7 := e
    rw [pos_kids 7 (by omega)]
    exact Int.le_of_eq (fold_plus _ _ (RgL.sm h.kids) hn)
  · split
    · exact plus_ge hn hs.1
    · exact Int.le_refl _
theorem flats6_pos : ∀ (l : List Tm) (n : Int), RgL l → Sm n → ((l.flatMap flat6).map posT).foldl plusF n ≤ (l.map posT).foldl plusF n
  | [], _, _, _ => Int.le_refl _
  | s :: r, n, hl, hn => by
    have hs := hl s (by simp)
    have hr : RgL r := fun y hy => hl y (by simp [hy])
    rw [List.flatMap_cons, List.map_append, List.foldl_append, List.map_cons, List.foldl_cons]
    refine Int.le_trans (fold_le _ _ _ (flat6_pos hs hn)) (flats6_pos r _ hr (plus_sm hn (pos_sm s hs)))
theorem flats7_pos : ∀ (l : List Tm) (n : Int), RgL l → Sm n → ((l.flatMap flat7).map posT).foldl plusF n ≤ (l.map posT).foldl plusF n
  | [], _, _, _ => Int.le_refl _
  | s :: r, n, hl, hn => by
    have hs := hl s (by simp)
    have hr : RgL r := fun y hy => hl y (by simp [hy])
    rw [List.flatMap_cons, List.map_append, List.foldl_append, List.map_cons, List.foldl_cons]
    refine Int.le_trans (fold_le _ _ _ (flat7_pos hs hn)) (flats7_pos r _ hr (plus_sm hn (pos_sm s hs)))
theorem lf_pos (op : Int) (h : op = 1 ∨ op = 9) : posT (lfT op) = 0 := pos_kids op (by omega) _ _ _ []
theorem around_pos {op : Int} (hop : op = 6 ∨ op = 7) {l : List Tm} (h : RgL l) {no : Int} (hno : no = 1 ∨ no = 9) : posT (around op l no) = sumP l := by
  rcases l with _ | ⟨a, _ | ⟨b, r⟩⟩
  · exact lf_pos _ hno
  · exact (zero_plus (pos_sm a (h a (by simp)))).symm
  · exact pos_kids op (by omega) _ _ _ _
theorem rep_pos {f : Nat → Bool} {lo hi : Int} {k : Tm} (hlo : 0 ≤ lo) (hhi : -1 ≤ hi) (hk : Rg k) : posT (sRep f lo hi k) ≤ timesF (posT k) (copiesF lo hi) := by
  have hp := pos_sm k hk
  have hc0 : 0 ≤ copiesF lo hi := by unfold copiesF; split <;> (try split) <;> omega
  have h0 := (times_sm hp hc0).1
  have hc : hi ≠ 0 → 1 ≤ copiesF lo hi := fun h => by unfold copiesF; split <;> (try split) <;> omega
  unfold sRep
  split
  · rw [lf_pos 1 (.inl rfl)]; exact h0
  · rename_i n1
    have hc' := hc fun e => n1 (.inl e)
    split
    · split
      · rw [lf_pos 1 (.inl rfl)]; exact h0
      · exact times_ge hp hc'
    · split
      · exact times_ge hp hc'
      · exact Int.le_of_eq (pos_eight _ _ _ hp)
theorem sim_pos (t : Tm) : Wl t → Rg t → posT (simT t) ≤ posT t := by
  induction t using Tm.ind with
  | h op f lo hi ks ih =>
    intro h g
    have g0 := g
    have hp0 := pos_sm _ g
    cases h with
    | mk _ _ _ _ _ hl h8 hk =>
    cases g with
    | mk _ _ _ _ _ g1 g8 gk =>
    have hR : RgL (simL ks) := fun x hx => by
      rw [simL_map] at hx
      obtain ⟨k, hm, rfl⟩ := List.mem_map.1 hx
      exact sim_rg k (hk k hm) (gk k hm)
    have hE : ((simL ks).map posT).foldl plusF 0 ≤ (ks.map posT).foldl plusF 0 := by
      rw [simL_map]
      refine fold_mono _ _ _ _ (List.length_map _) (fun i a b ha hb => ?_) (Int.le_refl _)
      rw [List.getElem?_map, hb] at ha
      obtain rfl : simT b = a := Option.some.inj ha
      have hm := List.mem_of_getElem? hb
      exact ih b hm (hk b hm) (gk b hm)
    rw [simT]
    unfold leafS
    split
    · rename_i e; subst e
      rw [pos_kids 6 (by omega)]
      unfold sCat
      split
      · rw [lf_pos 9 (.inr rfl)]
        exact (fold_plus_sm _ _ (RgL.sm gk) (en0 true).l).1
      · rw [around_pos (.inl rfl) (fun x hx => by
          obtain ⟨s, hs, hx⟩ := List.mem_flatMap.1 hx
          exact rg_flat6 (hR s hs) x hx) (.inl rfl)]
        exact Int.le_trans (flats6_pos _ _ hR (en0 true).l) hE
    · split
      · rename_i e; subst e
        rw [pos_kids 7 (by omega)]
        unfold sAlt
        have hF : RgL ((simL ks).flatMap flat7) := fun x hx => by
          obtain ⟨s, hs, hx⟩ := List.mem_flatMap.1 hx
          exact rg_flat7 (hR s hs) x hx
        have hn : RgL [] := fun x hx => by cases hx
        rw [around_pos (.inr rfl) (norm_all (P := Rg) (fun f t h => h.join f) _ _ hn hF) (.inr rfl)]
        exact Int.le_trans (sumP_norm _ [] hn hF) (Int.le_trans (flats7_pos _ _ hR (en0 true).l) hE)
      · split
        · rw [lf_pos 9 (.inr rfl)]; exact hp0.1
        · split
          · rename_i e; subst e
            obtain ⟨k, rfl⟩ : ∃ k, ks = [k] := by
              have := h8 rfl
              rcases ks with _ | ⟨k, _ | ⟨_, _⟩⟩
              · cases this
              · exact ⟨k, rfl⟩
              · simp at this
            have hk1 := hk k (by simp)
            have gk1 := gk k (by simp)
            have hb := g8 rfl
            rw [simL, simL, pos_eight _ _ _ (pos_sm k gk1)]
            show posT (sRep f lo hi (simT k)) ≤ _
            exact Int.le_trans (rep_pos hb.1.1 hb.2.1.1 (sim_rg k hk1 gk1)) (times_mono (ih k (by simp) hk1 gk1) (by unfold copiesF; split <;> (try split) <;> omega))
          · exact Int.le_refl _
end Sp
end Go.Proofs.Ytkljagffccommaa

/- The extent of a term and its positions, as a walk needs them: pure. -/
namespace Go.Proofs.Ytkljagffccommaa
open Go.RowKit
namespace Sp
namespace Y
theorem plusF_sm {a b : Int} (ha : Sm a) (hb : Sm b) : Sm (plusF a b) := by unfold Sm plusF at *; split <;> omega
theorem timesF_sm {a b : Int} (ha : Sm a) (hb : 0 ≤ b) : Sm (timesF a b) := by
  unfold Sm timesF at *
  have := Int.mul_nonneg ha.1 hb
  split <;> omega
theorem wrapEq (x : Int) : IntKind.i64.wrap x = wrap64 x := by rw [IntKind.wrap_i64]; unfold wrap64; omega
structure Eo (x : Ex) : Prop where
  l : Sm x.l
  m : x.m = -1 ∨ Sm x.m
theorem posL_sm : ∀ (l : List Tm) (n : Int), (∀ k ∈ l, Sm (posT k)) → Sm n → Sm (posL l n)
  | [], n, _, h => by rw [posL]; exact h
  | k :: r, n, hk, h => by rw [posL]; exact posL_sm r _ (fun x hx => hk x (by simp [hx])) (plusF_sm h (hk k (by simp)))
theorem sm0 : Sm 0 := by unfold Sm; omega
theorem sm1 : Sm 1 := by unfold Sm; omega
theorem posT_sm (t : Tm) (h : Ok t) : Sm (posT t) := by
  induction t using Tm.ind with
  | h op f lo hi ks ih =>
    have hL := posL_sm ks 0 (fun k hk => ih k hk (h.kid hk)) sm0
    rw [posT]
    split
    · exact sm1
    · split
      · rename_i h8
        have := h.num h8
        exact timesF_sm hL (by unfold copiesF; split <;> (try split) <;> omega)
      · exact hL
theorem eo0 (b : Bool) : Eo ⟨0, 0, b⟩ := ⟨sm0, .inr sm0⟩
theorem eo1 (b : Bool) : Eo ⟨1, 1, b⟩ := ⟨sm1, .inr sm1⟩
theorem mostF_eo {f : Int → Int → Int} {a b : Int} (ha : a = -1 ∨ Sm a) (hb : b = -1 ∨ Sm b) (hf : ∀ a b, Sm a → Sm b → Sm (f a b)) : mostF f a b = -1 ∨ Sm (mostF f a b) := by
  unfold mostF
  split
  · exact .inl rfl
  · rename_i h
    exact .inr (hf a b (ha.resolve_left fun e => h (.inl e)) (hb.resolve_left fun e => h (.inr e)))
theorem thenF_eo {x y : Ex} (hx : Eo x) (hy : Eo y) : Eo (thenF x y) := by
  unfold thenF
  split
  · exact ⟨plusF_sm hx.l hy.l, mostF_eo hx.m hy.m fun a b => plusF_sm⟩
  · exact eo0 _
theorem orF_eo {x y : Ex} (hx : Eo x) (hy : Eo y) : Eo (orF x y) := by
  unfold orF
  split
  · split
    · refine ⟨?_, mostF_eo hx.m hy.m fun a b ha hb => ?_⟩
      · have h1 := hx.l; have h2 := hy.l; unfold Sm at *; show 0 ≤ min x.l y.l ∧ min x.l y.l ≤ _; omega
      · unfold Sm at *; omega
    · exact hx
  · exact hy
theorem repeatF_eo {x : Ex} {lo hi : Int} (hx : Eo x) (hlo : 0 ≤ lo) (hhi : -1 ≤ hi) : Eo (repeatF x lo hi) := by
  unfold repeatF
  split
  · refine ⟨timesF_sm hx.l hlo, ?_⟩
    show (if x.m = 0 ∨ hi = 0 then 0 else mostF timesF x.m hi) = -1 ∨ Sm (if x.m = 0 ∨ hi = 0 then 0 else mostF timesF x.m hi)
    split
    · exact .inr sm0
    · unfold mostF
      split
      · exact .inl rfl
      · rename_i h
        exact .inr (timesF_sm (hx.m.resolve_left fun e => h (.inl e)) (by omega))
  · exact eo0 _
theorem catX_eo : ∀ (l : List Tm) (x : Ex), (∀ k ∈ l, Eo (spanT k)) → Eo x → Eo (catX l x)
  | [], x, _, h => by rw [catX]; exact h
  | k :: r, x, hk, h => by rw [catX]; exact catX_eo r _ (fun y hy => hk y (by simp [hy])) (thenF_eo h (hk k (by simp)))
theorem altX_eo : ∀ (l : List Tm) (x : Ex), (∀ k ∈ l, Eo (spanT k)) → Eo x → Eo (altX l x)
  | [], x, _, h => by rw [altX]; exact h
  | k :: r, x, hk, h => by rw [altX]; exact altX_eo r _ (fun y hy => hk y (by simp [hy])) (orF_eo h (hk k (by simp)))
theorem spanT_eo (t : Tm) (h : Ok t) : Eo (spanT t) := by
  induction t using Tm.ind with
  | h op f lo hi ks ih =>
    have hk : ∀ k ∈ ks, Eo (spanT k) := fun k hk => ih k hk (h.kid hk)
    rw [spanT]
    split
    · exact eo0 _
    split
    · exact eo1 _
    split
    · split
      · exact eo0 _
      · exact eo1 _
    split
    · exact catX_eo ks _ hk (eo0 _)
    split
    · exact altX_eo ks _ hk (eo0 _)
    split
    · rename_i h8
      have hn := h.num h8
      match ks, hk with
      | [], _ => rw [repX]; exact eo0 _; intro k e; cases e
      | [k], hk => rw [repX]; exact repeatF_eo (hk k (by simp)) hn.1.1 hn.2.1
      | _ :: _ :: _, _ => rw [repX]; exact eo0 _; intro k e; cases e
    · exact eo0 _
end Y
end Sp
end Go.Proofs.Ytkljagffccommaa

/- What the walks of the laws of width have in common. -/
namespace Go.Proofs.Ytkljagffccommaa
open Go.RowKit
namespace Sp
namespace Y
/-- a law's argument, and what is known of it -/
structure Cx (w wr : World) (b : Nat) (t : Tm) (d : TD) : Prop where
  bel : Below w.heap.size w wr
  tr : TR wr t d
  tb : TB wr b d
theorem Cx.to {w wr w' : World} {b : Nat} {t : Tm} {d : TD} (h : Cx w wr b t d) (hb : Below wr.heap.size wr w') : Cx w w' b t d := ⟨h.bel.trans (hb.mono h.bel.size), h.tr.keeps hb, h.tb.below hb⟩
theorem span_no (t : Tm) (h : (spanT t).a = false) : (spanT t).l = 0 ∧ (spanT t).m = 0 := by
  suffices H : (spanT t).a = false → spanT t = ⟨0, 0, false⟩ by rw [H h]; exact ⟨rfl, rfl⟩
  clear h
  induction t using Tm.ind with
  | h op f lo hi ks ih =>
    have hc : ∀ (l : List Tm) (x : Ex), (∀ k ∈ l, (spanT k).a = false → spanT k = ⟨0, 0, false⟩) → (x.a = false → x = ⟨0, 0, false⟩) → (catX l x).a = false → catX l x = ⟨0, 0, false⟩ := by
      intro l
      induction l with
      | nil => intro x _ hx; rw [catX]; exact hx
      | cons k r ihl =>
        intro x hk hx
        rw [catX]
        refine ihl _ (fun y hy => hk y (by simp [hy])) ?_
        unfold thenF
        split
        · intro h; cases h
        · intro _; rfl
    have ha : ∀ (l : List Tm) (x : Ex), (∀ k ∈ l, (spanT k).a = false → spanT k = ⟨0, 0, false⟩) → (x.a = false → x = ⟨0, 0, false⟩) → (altX l x).a = false → altX l x = ⟨0, 0, false⟩ := by
      intro l
      induction l with
      | nil => intro x _ hx; rw [altX]; exact hx
      | cons k r ihl =>
        intro x hk hx
        rw [altX]
        refine ihl _ (fun y hy => hk y (by simp [hy])) ?_
        unfold orF
        split
        · split
          · intro h; cases h
          · exact hx
        · exact hk k (by simp)
    rw [spanT]
    split
    · intro h; cases h
    split
    · intro h; cases h
    split
    · split
      · intro _; rfl
      · intro h; cases h
    split
    · exact hc ks _ ih (fun h => by cases h)
    split
    · exact ha ks _ ih (fun _ => rfl)
    split
    · match ks with
      | [] => intro _; rw [repX]; simp
      | [k] =>
        rw [repX]
        unfold repeatF
        split
        · intro h; cases h
        · intro h
          have h' : decide (lo = 0) = false := h
          rw [h']
      | _ :: _ :: _ => intro _; rw [repX]; simp
    · intro _; rfl
end Y
end Sp
end Go.Proofs.Ytkljagffccommaa

/- The document's numbers: cap, product, Positions, Anchored. -/
namespace Go.Proofs.Ytkljagffccommaa
open Go.RowKit
namespace Sp
namespace Y
theorem cap_any (a b : Int) (w : World) (ha : Sm a) (hb : Sm b) : Calls Try.prog 51 #[.int .i64 (a + b)] w fun e w' => e = .returned (.int .i64 (plusF a b)) ∧ w = w' := by
  unfold Sm at ha hb
  unfold plusF
  by_cases h : a + b ≤ 1099511627776
  · rw [if_pos h]
    go_enter Try.func51, Try.ntmps51
    go_wp2
    go_ret
    exact ⟨rfl, rfl⟩
  · rw [if_neg h]
    go_enter Try.func51, Try.ntmps51
    go_wp2
    go_ret
    exact ⟨rfl, rfl⟩
/-- of a number of times and a number -/
theorem product_any (b a : Int) (w : World) (ha : Sm a) (hb : 0 ≤ b ∧ b ≤ 200) : Calls Try.prog 52 #[.int .i64 b, .int .i64 a] w fun e w' => e = .returned (.int .i64 (timesF a b)) ∧ w = w' := by
  unfold Sm at ha
  have hn := Int.mul_nonneg hb.1 ha.1
  have h4 : b * a ≤ 200 * 1099511627776 := Int.mul_le_mul hb.2 ha.2 ha.1 (by omega)
  have ec : a * b = b * a := Int.mul_comm a b
  by_cases h0 : b = 0
  · subst h0
    have R : Hid (timesF a 0 = 0) := by show timesF a 0 = 0; unfold timesF; rw [if_pos (by omega)]; omega
    clear hn h4 ec
    go_enter Try.func52, Try.ntmps52
    go_wp2
    go_ret
    rw [R.out]
    exact ⟨by simp, rfl⟩
  · have q0 : 0 < b := by omega
    have key := Int.le_ediv_iff_mul_le (a := a) (b := 1099511627776) (c := b) q0
    have ec2 : a * b = b * a := ec
    by_cases hq : a ≤ 1099511627776 / b
    · have h1 := key.1 hq
      have q1 : ¬ 1099511627776 / b < a := by omega
      have q2 : wrap64 (b * a) = b * a := by rw [← wrapEq]; exact IntWalk.i64_in _ (by omega)
      have R : Hid (timesF a b = b * a) := by show timesF a b = _; unfold timesF; rw [if_pos (by omega)]; omega
      clear key h1 ec ec2 hn h4
      go_enter Try.func52, Try.ntmps52
      go_wp2
      go_ret
      rw [R.out]
      exact ⟨rfl, rfl⟩
    · have q1 : 1099511627776 / b < a := by omega
      have R : Hid (timesF a b = 1099511627776) := by show timesF a b = _; unfold timesF; rw [if_neg (fun h => hq (key.2 (by omega)))]
      clear key ec ec2 hn h4 hq
      go_enter Try.func52, Try.ntmps52
      go_wp2
      go_ret
      rw [R.out]
      exact ⟨rfl, rfl⟩
set_option maxRecDepth 100000 in
set_option maxHeartbeats 2000000 in
theorem posref_any : ∀ (t : Tm) (d : TD) (w : World), TR w t d → Ok t → Calls Try.prog 24 #[d.val] w (Tells w (.int .i64 (posT t))) := by
  intro t
  induction t using Tm.ind with
  | h op f lo hi ks ih =>
  intro d w ht hok
  cases ht with
  | mk _ _ _ _ _ q A c ds hq hl hn hk hr =>
  obtain ⟨n, hnn⟩ : ∃ n, ks.length = n := ⟨_, rfl⟩
  rw [hnn] at hn ⊢
  have T1 : Hid (TB (w.alloc (.cells #[.int .i64 op, .int .u64 (uv (q 0)), .int .u64 (uv (q 1)), .int .u64 (uv (q 2)), .int .u64 (uv (q 3)), .int .i64 lo, .int .i64 hi, .slice A n c] 29)) w.heap.size ⟨op, q, lo, hi, A, n, c⟩) := TB.new w ⟨op, q, lo, hi, A, n, c⟩
  have B1 : Hid (Below w.heap.size w (w.alloc (.cells #[.int .i64 op, .int .u64 (uv (q 0)), .int .u64 (uv (q 1)), .int .u64 (uv (q 2)), .int .u64 (uv (q 3)), .int .i64 lo, .int .i64 hi, .slice A n c] 29))) := below_new w _
  obtain ⟨⟨x0, x1, x2, x3, x4, x5, x6, x7⟩, _⟩ := T1.out.all
  unfold TD.val
  by_cases h2 : op = 2
  · subst h2
    have R : Hid (posT (.mk 2 f lo hi ks) = 1) := by show posT _ = 1; rw [posT, if_pos (.inl rfl)]
    clear ih hk hr hok
    rw [R.out]
    go_enter Try.func24, Try.ntmps24
    go_wp2
    go_ret
    exact ⟨rfl, B1.out⟩
  have q2 : (op == 2) = false := by rw [beq_eq_false_iff_ne]; exact h2
  by_cases h3 : op = 3
  · subst h3
    have R : Hid (posT (.mk 3 f lo hi ks) = 1) := by show posT _ = 1; rw [posT, if_pos (.inr rfl)]
    clear ih hk hr hok
    rw [R.out]
    go_enter Try.func24, Try.ntmps24
    go_wp2
    go_ret
    exact ⟨rfl, B1.out⟩
  have q3 : (op == 3) = false := by rw [beq_eq_false_iff_ne]; exact h3
  have R : Hid (posT (.mk op f lo hi ks) = if op = 8 then timesF (posL ks 0) (copiesF lo hi) else posL ks 0) := by show posT _ = _; rw [posT, if_neg (by rintro (h | h); exact h2 h; exact h3 h)]
  have SL := Lib.hid (posL_sm ks 0 (fun k hk => posT_sm k (hok.kid hk)) sm0)
  have IH := Lib.hid ih; have HK := Lib.hid hk; have HR := Lib.hid hr; have HL := Lib.hid hl; have OK := Lib.hid hok; have HN := Lib.hid hnn
  clear ih hk hr hl hnn hok h2 h3
  go_enter Try.func24, Try.ntmps24
  go_wp2_with fail
  go_loopw [3, 4] (fun u v wr => ∃ (i : Nat) (z : Int), i ≤ n ∧ u = .int .i64 z ∧ v = .int .i64 (i : Nat) ∧ Hid (Sm z ∧ posL (ks.drop i) z = posL ks 0) ∧ Hid (TB wr w.heap.size ⟨op, q, lo, hi, A, n, c⟩ ∧ Below w.heap.size w wr)) (fun _ v _ => n - (intOf v).toNat)
  case atStart => exact ⟨0, 0, Nat.zero_le _, rfl, rfl, ⟨sm0, by rw [List.drop_zero]⟩, ⟨T1.out, B1.out⟩⟩
  case round =>
    obtain ⟨i, z, hi1, rfl, rfl, hZ, hW⟩ := hrel
    clear T1 B1 x0 x1 x2 x3 x4 x5 x6 x7
    by_cases hlt : i < n
    · have qi : (i : Int) < (n : Int) := by omega
      have hi2 : i < ks.length := by have := HN.out; omega
      have hi4 : i < ds.length := by have h1 := HL.out; omega
      obtain ⟨kb1, off1, rfl, hb1, hc1⟩ := HR.out (by omega)
      obtain ⟨a0, a1, a2, a3, a4, a5, a6, a7⟩ := kid_cells hW.out.2 hb1 hc1 (List.getElem?_eq_getElem hi4)
      have k1 := (HK.out i _ _ (List.getElem?_eq_getElem hi2) (List.getElem?_eq_getElem hi4)).keeps hW.out.2
      have okk := OK.out.kid (List.getElem_mem hi2)
      have zz : posL (ks.drop (i + 1)) (plusF z (posT ks[i])) = posL ks 0 := by rw [← hZ.out.2, List.drop_eq_getElem_cons hi2, posL]
      have hm := List.getElem_mem hi2
      generalize ks[i] = kt at *
      generalize ds[i] = dt at *
      have D1 := Lib.hid (IH.out kt hm dt _ k1 okk)
      have D2 := Lib.hid fun W => cap_any z (posT kt) W hZ.out.1 (posT_sm kt okk)
      have Z2 : Hid (Sm (plusF z (posT kt)) ∧ posL (ks.drop (i + 1)) (plusF z (posT kt)) = posL ks 0) := ⟨plusF_sm hZ.out.1 (posT_sm kt okk), zz⟩
      have q9 : IntKind.i64.wrap (z + posT kt) = z + posT kt := by have h1 := hZ.out.1; have h2 := posT_sm kt okk; unfold Sm at h1 h2; exact IntWalk.i64_in _ (by omega)
      have W2 := hW
      obtain ⟨⟨x0, x1, x2, x3, x4, x5, x6, x7⟩, -⟩ := hW.out.1.all
      have kbl : kb1 < wr.heap.size := Nat.lt_of_lt_of_le hb1 hW.out.2.size
      have q6 : IntKind.i64.wrap ((i : Int) + 1) = ((i + 1 : Nat) : Int) := by rw [IntWalk.i64_in _ (by omega)]; omega
      clear hc1 k1 hi2 hi4 hb1 zz hm okk hZ hW
      unfold TD.val at D1
      go_wp2_with fail
      refine D1.out.mono ?_
      rintro e w5 ⟨rfl, hb5⟩
      have W5 : Hid (TB w5 w.heap.size ⟨op, q, lo, hi, some ⟨kb1, off1, none⟩, n, c⟩ ∧ Below w.heap.size w w5) := ⟨W2.out.1.below hb5, W2.out.2.trans (hb5.mono W2.out.2.size)⟩
      clear D1 W2 hb5 a0 a1 a2 a3 a4 a5 a6 a7 kbl x0 x1 x2 x3 x4 x5 x6 x7
      go_wp2_with fail
      refine (D2.out _).mono ?_
      rintro e w6 ⟨rfl, rfl⟩
      clear D2
      go_wp2_with fail
      go_roundw
      case rel => exact ⟨i + 1, _, by omega, rfl, by simp, Z2, W5⟩
      case measure => simp [intOf]; omega
    · have hin : i = n := by omega
      have ez : z = posL ks 0 := by rw [← hZ.out.2, List.drop_eq_nil_of_le (by have := HN.out; omega), posL]
      subst ez
      obtain ⟨⟨x0, x1, x2, x3, x4, x5, x6, x7⟩, _⟩ := hW.out.1.all
      have qi : ¬ (i : Int) < (n : Int) := by omega
      by_cases h8 : op = 8
      · subst h8
        have hnum := OK.out.num rfl
        have hcf : 0 ≤ copiesF lo hi ∧ copiesF lo hi ≤ 200 := by unfold copiesF; split <;> (try split) <;> omega
        have R2 : Hid (posT (.mk 8 f lo hi ks) = timesF (posL ks 0) (copiesF lo hi)) := by show posT _ = _; rw [R.out, if_pos rfl]
        have D4 := Lib.hid fun W => product_any (copiesF lo hi) (posL ks 0) W SL.out hcf
        have hc : (hi < 0 ∧ lo = 0 ∧ copiesF lo hi = 1) ∨ (hi < 0 ∧ ¬ lo = 0 ∧ copiesF lo hi = lo) ∨ (¬ hi < 0 ∧ copiesF lo hi = hi) := by
          unfold copiesF
          by_cases h1 : hi = -1
          · rw [if_pos h1]
            by_cases h2 : lo = 0
            · rw [if_pos h2]; exact .inl ⟨by omega, h2, rfl⟩
            · rw [if_neg h2]; exact .inr (.inl ⟨by omega, h2, rfl⟩)
          · rw [if_neg h1]; exact .inr (.inr ⟨by omega, rfl⟩)
        clear R hnum hcf hin hZ
        generalize posL ks 0 = zl at *
        generalize copiesF lo hi = cf at *
        rcases hc with ⟨c1, c2, c3⟩ | ⟨c1, c2, c3⟩ | ⟨c1, c3⟩
        · subst c2; subst c3
          go_wp2_with fail
          refine (D4.out _).mono ?_
          rintro e w6 ⟨rfl, rfl⟩
          clear D4
          go_wp2
          go_ret
          rw [R2.out]
          exact ⟨rfl, hW.out.2⟩
        · subst c3
          have c4 : (cf == 0) = false := by rw [beq_eq_false_iff_ne]; exact c2
          go_wp2_with fail
          refine (D4.out _).mono ?_
          rintro e w6 ⟨rfl, rfl⟩
          clear D4
          go_wp2
          go_ret
          rw [R2.out]
          exact ⟨rfl, hW.out.2⟩
        · subst c3
          go_wp2_with fail
          refine (D4.out _).mono ?_
          rintro e w6 ⟨rfl, rfl⟩
          clear D4
          go_wp2
          go_ret
          rw [R2.out]
          exact ⟨rfl, hW.out.2⟩
      · have q8 : (op == 8) = false := by rw [beq_eq_false_iff_ne]; exact h8
        have R2 : Hid (posT (.mk op f lo hi ks) = posL ks 0) := by show posT _ = _; rw [R.out, if_neg h8]
        clear R hin hZ
        generalize posL ks 0 = zl at *
        go_wp2
        go_ret
        rw [R2.out]
        exact ⟨rfl, hW.out.2⟩
end Y
end Sp
end Go.Proofs.Ytkljagffccommaa

/- The document's Any. -/
namespace Go.Proofs.Ytkljagffccommaa
open Go.RowKit
namespace Sp
namespace Y
/-- right, but for what matches nothing at all -/
def Rw (t : Tm) : Prop := Rt (woT t)
theorem Rw.facts {op : Int} {f : Nat → Bool} {lo hi : Int} {ks : List Tm} (h : Rw (.mk op f lo hi ks)) : (1 ≤ op ∧ op ≤ 9) ∧ (op < 6 ∨ op = 9 → ks.length = 0) ∧ (op = 6 ∨ op = 7 → 2 ≤ ks.length) ∧ (op = 8 → ks.length = 1 ∧ 0 ≤ lo ∧ lo ≤ 200 ∧ -1 ≤ hi ∧ hi ≤ 200 ∧ (0 ≤ hi → lo ≤ hi)) := by
  unfold Rw at h
  by_cases h9 : op = 9
  · rw [woT, if_pos h9] at h
    have := h.facts
    refine ⟨by omega, fun _ => this.2.1 (by omega), fun h => by omega, fun h => by omega⟩
  · rw [woT, if_neg h9] at h
    have := h.facts
    rw [woL_len] at this
    refine ⟨by omega, fun h => this.2.1 (by omega), this.2.2.1, this.2.2.2⟩
theorem Rw.kid {op : Int} {f : Nat → Bool} {lo hi : Int} {ks : List Tm} (h : Rw (.mk op f lo hi ks)) {k : Tm} (hk : k ∈ ks) : Rw k := by
  have hf := h.facts
  unfold Rw at h
  by_cases h9 : op = 9
  · have h0 : ks = [] := List.eq_nil_of_length_eq_zero (hf.2.1 (.inr h9))
    subst h0; simp at hk
  · rw [woT, if_neg h9] at h
    exact h.kid (woL_mem ks k hk)
def allA : List Tm → Bool
  | [] => true
  | k :: r => (spanT k).a && allA r
def anyA : List Tm → Bool
  | [] => false
  | k :: r => (spanT k).a || anyA r
theorem catX_a : ∀ (l : List Tm) (x : Ex), (catX l x).a = (x.a && allA l)
  | [], x => by rw [catX, allA, Bool.and_true]
  | k :: r, x => by
    rw [catX, allA, catX_a r, ← Bool.and_assoc]
    congr 1
    unfold thenF
    cases x.a <;> cases (spanT k).a <;> rfl
theorem altX_a : ∀ (l : List Tm) (x : Ex), (altX l x).a = (x.a || anyA l)
  | [], x => by rw [altX, anyA, Bool.or_false]
  | k :: r, x => by
    rw [altX, anyA, altX_a r, ← Bool.or_assoc]
    congr 1
    unfold orF
    cases hx : x.a <;> cases hy : (spanT k).a <;> simp [hx, hy]
theorem span6_a (f : Nat → Bool) (lo hi : Int) (ks : List Tm) : (spanT (.mk 6 f lo hi ks)).a = allA ks := by rw [spanT]; simp [catX_a]
theorem span7_a (f : Nat → Bool) (lo hi : Int) (ks : List Tm) : (spanT (.mk 7 f lo hi ks)).a = anyA ks := by rw [spanT]; simp [altX_a]
theorem span8_a (f : Nat → Bool) (lo hi : Int) (k : Tm) : (spanT (.mk 8 f lo hi [k])).a = (decide (lo = 0) || (spanT k).a) := by
  rw [spanT]
  simp [repX]
  unfold repeatF
  cases hx : (spanT k).a <;> simp
theorem span_yes {op : Int} (f : Nat → Bool) (lo hi : Int) (ks : List Tm) (h : op = 1 ∨ op = 3 ∨ op = 4 ∨ op = 5) : (spanT (.mk op f lo hi ks)).a = true := by
  rw [spanT]
  by_cases h1 : op = 1 ∨ op = 4 ∨ op = 5
  · rw [if_pos h1]
  · rw [if_neg h1, if_pos (by omega)]
set_option maxRecDepth 100000 in
set_option maxHeartbeats 2000000 in
theorem any_6 (f : Nat → Bool) (lo hi : Int) (ks : List Tm) (d : TD) (w : World) (ht : TR w (.mk 6 f lo hi ks) d) (ih : ∀ k ∈ ks, ∀ (d : TD) (w : World), TR w k d → Calls Try.prog 48 #[d.val] w (Tells w (.bool (spanT k).a))) : Calls Try.prog 48 #[d.val] w (Tells w (.bool (allA ks))) := by
  cases ht with
  | mk _ _ _ _ _ q A c ds hq hl hn hk hr =>
  obtain ⟨n, hnn⟩ : ∃ n, ks.length = n := ⟨_, rfl⟩
  rw [hnn] at hn ⊢
  have T1 : Hid (TB (w.alloc (.cells #[.int .i64 6, .int .u64 (uv (q 0)), .int .u64 (uv (q 1)), .int .u64 (uv (q 2)), .int .u64 (uv (q 3)), .int .i64 lo, .int .i64 hi, .slice A n c] 29)) w.heap.size ⟨6, q, lo, hi, A, n, c⟩) := TB.new w ⟨6, q, lo, hi, A, n, c⟩
  have B1 : Hid (Below w.heap.size w (w.alloc (.cells #[.int .i64 6, .int .u64 (uv (q 0)), .int .u64 (uv (q 1)), .int .u64 (uv (q 2)), .int .u64 (uv (q 3)), .int .i64 lo, .int .i64 hi, .slice A n c] 29))) := below_new w _
  obtain ⟨⟨x0, x1, x2, x3, x4, x5, x6, x7⟩, -⟩ := T1.out.all
  have IH := Lib.hid ih; have HK := Lib.hid hk; have HR := Lib.hid hr; have HL := Lib.hid hl; have HN := Lib.hid hnn
  clear ih hk hr hl hnn
  unfold TD.val
  go_enter Try.func48, Try.ntmps48
  go_wp2_with fail
  go_loopw [3] (fun v wr => ∃ (i : Nat), i ≤ n ∧ v = .int .i64 (i : Nat) ∧ Hid (allA (ks.drop i) = allA ks) ∧ Hid (TB wr w.heap.size ⟨6, q, lo, hi, A, n, c⟩ ∧ Below w.heap.size w wr)) (fun v _ => n - (intOf v).toNat)
  case atStart => exact ⟨0, Nat.zero_le _, rfl, (by show allA (ks.drop 0) = _; rw [List.drop_zero]), ⟨T1.out, B1.out⟩⟩
  case round =>
    obtain ⟨i, hi1, rfl, hZ, hW⟩ := hrel
    clear T1 B1 x0 x1 x2 x3 x4 x5 x6 x7
    by_cases hlt : i < n
    · have qi : (i : Int) < (n : Int) := by omega
      have hi2 : i < ks.length := by have := HN.out; omega
      have hi4 : i < ds.length := by have h1 := HL.out; omega
      obtain ⟨kb1, off1, rfl, hb1, hc1⟩ := HR.out (by omega)
      obtain ⟨a0, a1, a2, a3, a4, a5, a6, a7⟩ := kid_cells hW.out.2 hb1 hc1 (List.getElem?_eq_getElem hi4)
      obtain ⟨⟨x0, x1, x2, x3, x4, x5, x6, x7⟩, -⟩ := hW.out.1.all
      have k1 := (HK.out i _ _ (List.getElem?_eq_getElem hi2) (List.getElem?_eq_getElem hi4)).keeps hW.out.2
      have zz : Hid (allA ks = ((spanT ks[i]).a && allA (ks.drop (i + 1)))) := by show allA ks = _; rw [← hZ.out, List.drop_eq_getElem_cons hi2, allA]
      have hm := List.getElem_mem hi2
      generalize ks[i] = kt at *
      generalize ds[i] = dt at *
      have D1 := Lib.hid (IH.out kt hm dt _ k1)
      have kbl : kb1 < wr.heap.size := Nat.lt_of_lt_of_le hb1 hW.out.2.size
      have q6 : IntKind.i64.wrap ((i : Int) + 1) = ((i + 1 : Nat) : Int) := by rw [IntWalk.i64_in _ (by omega)]; omega
      clear hc1 k1 hi2 hi4 hb1 hm hZ
      generalize (spanT kt).a = b at *
      unfold TD.val at D1
      go_wp2_with fail
      refine D1.out.mono ?_
      rintro e w5 ⟨rfl, hb5⟩
      have W5 : Hid (TB w5 w.heap.size ⟨6, q, lo, hi, some ⟨kb1, off1, none⟩, n, c⟩ ∧ Below w.heap.size w w5) := ⟨hW.out.1.below hb5, hW.out.2.trans (hb5.mono hW.out.2.size)⟩
      clear D1 hW hb5 a0 a1 a2 a3 a4 a5 a6 a7 kbl x0 x1 x2 x3 x4 x5 x6 x7
      cases b
      · have Z2 : Hid (allA ks = false) := by show _ = _; rw [zz.out]; simp
        clear zz
        go_wp2
        go_ret
        rw [Z2.out]
        exact ⟨rfl, W5.out.2⟩
      · have Z2 : Hid (allA (ks.drop (i + 1)) = allA ks) := by show _ = _; rw [zz.out]; simp
        clear zz
        go_wp2_with fail
        go_roundw
        case rel => exact ⟨i + 1, by omega, by simp, Z2, W5⟩
        case measure => simp [intOf]; omega
    · have qi : ¬ (i : Int) < (n : Int) := by omega
      have e0 : Hid (allA ks = true) := by show _ = _; rw [← hZ.out, List.drop_eq_nil_of_le (by have := HN.out; omega), allA]
      obtain ⟨⟨x0, x1, x2, x3, x4, x5, x6, x7⟩, -⟩ := hW.out.1.all
      clear hZ
      go_wp2
      go_ret
      rw [e0.out]
      exact ⟨rfl, hW.out.2⟩
set_option maxRecDepth 100000 in
set_option maxHeartbeats 2000000 in
theorem any_7 (f : Nat → Bool) (lo hi : Int) (ks : List Tm) (d : TD) (w : World) (ht : TR w (.mk 7 f lo hi ks) d) (ih : ∀ k ∈ ks, ∀ (d : TD) (w : World), TR w k d → Calls Try.prog 48 #[d.val] w (Tells w (.bool (spanT k).a))) : Calls Try.prog 48 #[d.val] w (Tells w (.bool (anyA ks))) := by
  cases ht with
  | mk _ _ _ _ _ q A c ds hq hl hn hk hr =>
  obtain ⟨n, hnn⟩ : ∃ n, ks.length = n := ⟨_, rfl⟩
  rw [hnn] at hn ⊢
  have T1 : Hid (TB (w.alloc (.cells #[.int .i64 7, .int .u64 (uv (q 0)), .int .u64 (uv (q 1)), .int .u64 (uv (q 2)), .int .u64 (uv (q 3)), .int .i64 lo, .int .i64 hi, .slice A n c] 29)) w.heap.size ⟨7, q, lo, hi, A, n, c⟩) := TB.new w ⟨7, q, lo, hi, A, n, c⟩
  have B1 : Hid (Below w.heap.size w (w.alloc (.cells #[.int .i64 7, .int .u64 (uv (q 0)), .int .u64 (uv (q 1)), .int .u64 (uv (q 2)), .int .u64 (uv (q 3)), .int .i64 lo, .int .i64 hi, .slice A n c] 29))) := below_new w _
  obtain ⟨⟨x0, x1, x2, x3, x4, x5, x6, x7⟩, -⟩ := T1.out.all
  have IH := Lib.hid ih; have HK := Lib.hid hk; have HR := Lib.hid hr; have HL := Lib.hid hl; have HN := Lib.hid hnn
  clear ih hk hr hl hnn
  unfold TD.val
  go_enter Try.func48, Try.ntmps48
  go_wp2_with fail
  go_loopw [4] (fun v wr => ∃ (i : Nat), i ≤ n ∧ v = .int .i64 (i : Nat) ∧ Hid (anyA (ks.drop i) = anyA ks) ∧ Hid (TB wr w.heap.size ⟨7, q, lo, hi, A, n, c⟩ ∧ Below w.heap.size w wr)) (fun v _ => n - (intOf v).toNat)
  case atStart => exact ⟨0, Nat.zero_le _, rfl, (by show anyA (ks.drop 0) = _; rw [List.drop_zero]), ⟨T1.out, B1.out⟩⟩
  case round =>
    obtain ⟨i, hi1, rfl, hZ, hW⟩ := hrel
    clear T1 B1 x0 x1 x2 x3 x4 x5 x6 x7
    by_cases hlt : i < n
    · have qi : (i : Int) < (n : Int) := by omega
      have hi2 : i < ks.length := by have := HN.out; omega
      have hi4 : i < ds.length := by have h1 := HL.out; omega
      obtain ⟨kb1, off1, rfl, hb1, hc1⟩ := HR.out (by omega)
      obtain ⟨a0, a1, a2, a3, a4, a5, a6, a7⟩ := kid_cells hW.out.2 hb1 hc1 (List.getElem?_eq_getElem hi4)
      obtain ⟨⟨x0, x1, x2, x3, x4, x5, x6, x7⟩, -⟩ := hW.out.1.all
      have k1 := (HK.out i _ _ (List.getElem?_eq_getElem hi2) (List.getElem?_eq_getElem hi4)).keeps hW.out.2
      have zz : Hid (anyA ks = ((spanT ks[i]).a || anyA (ks.drop (i + 1)))) := by show anyA ks = _; rw [← hZ.out, List.drop_eq_getElem_cons hi2, anyA]
      have hm := List.getElem_mem hi2
      generalize ks[i] = kt at *
      generalize ds[i] = dt at *
      have D1 := Lib.hid (IH.out kt hm dt _ k1)
      have kbl : kb1 < wr.heap.size := Nat.lt_of_lt_of_le hb1 hW.out.2.size
      have q6 : IntKind.i64.wrap ((i : Int) + 1) = ((i + 1 : Nat) : Int) := by rw [IntWalk.i64_in _ (by omega)]; omega
      clear hc1 k1 hi2 hi4 hb1 hm hZ
      generalize (spanT kt).a = b at *
      unfold TD.val at D1
      go_wp2_with fail
      refine D1.out.mono ?_
      rintro e w5 ⟨rfl, hb5⟩
      have W5 : Hid (TB w5 w.heap.size ⟨7, q, lo, hi, some ⟨kb1, off1, none⟩, n, c⟩ ∧ Below w.heap.size w w5) := ⟨hW.out.1.below hb5, hW.out.2.trans (hb5.mono hW.out.2.size)⟩
      clear D1 hW hb5 a0 a1 a2 a3 a4 a5 a6 a7 kbl x0 x1 x2 x3 x4 x5 x6 x7
      cases b
      · have Z2 : Hid (anyA (ks.drop (i + 1)) = anyA ks) := by show _ = _; rw [zz.out]; simp
        clear zz
        go_wp2_with fail
        go_roundw
        case rel => exact ⟨i + 1, by omega, by simp, Z2, W5⟩
        case measure => simp [intOf]; omega
      · have Z2 : Hid (anyA ks = true) := by show _ = _; rw [zz.out]; simp
        clear zz
        go_wp2
        go_ret
        rw [Z2.out]
        exact ⟨rfl, W5.out.2⟩
    · have qi : ¬ (i : Int) < (n : Int) := by omega
      have e0 : Hid (anyA ks = false) := by show _ = _; rw [← hZ.out, List.drop_eq_nil_of_le (by have := HN.out; omega), anyA]
      obtain ⟨⟨x0, x1, x2, x3, x4, x5, x6, x7⟩, -⟩ := hW.out.1.all
      clear hZ
      go_wp2
      go_ret
      rw [e0.out]
      exact ⟨rfl, hW.out.2⟩
set_option maxRecDepth 100000 in
set_option maxHeartbeats 2000000 in
theorem anyref_any : ∀ (t : Tm) (d : TD) (w : World), TR w t d → Rw t → Calls Try.prog 48 #[d.val] w (Tells w (.bool (spanT t).a)) := by
  intro t
  induction t using Tm.ind with
  | h op f lo hi ks ih =>
  intro d w ht hw
  have hf := hw.facts
  have ih' : ∀ k ∈ ks, ∀ (d : TD) (w : World), TR w k d → Calls Try.prog 48 #[d.val] w (Tells w (.bool (spanT k).a)) := fun k hk d w h => ih k hk d w h (hw.kid hk)
  by_cases h6 : op = 6
  · subst h6; rw [span6_a]; exact any_6 f lo hi ks d w ht ih'
  by_cases h7 : op = 7
  · subst h7; rw [span7_a]; exact any_7 f lo hi ks d w ht ih'
  cases ht with
  | mk _ _ _ _ _ q A c ds hq hl hn hk hr =>
  have B1 := Lib.hid (below_new w (.cells #[.int .i64 op, .int .u64 (uv (q 0)), .int .u64 (uv (q 1)), .int .u64 (uv (q 2)), .int .u64 (uv (q 3)), .int .i64 lo, .int .i64 hi, .slice A ks.length c] 29))
  obtain ⟨⟨x0, x1, x2, x3, x4, x5, x6, x7⟩, -⟩ := (TB.new w ⟨op, q, lo, hi, A, ks.length, c⟩).all
  unfold TD.val
  by_cases h9 : op = 9
  · subst h9
    have R : Hid ((spanT (.mk 9 f lo hi ks)).a = false) := by show _ = _; rw [spanT]; simp
    clear ih ih' hk hr hw hf
    rw [R.out]
    go_enter Try.func48, Try.ntmps48
    go_wp2
    go_ret
    exact ⟨rfl, B1.out⟩
  by_cases h2 : op = 2
  · subst h2
    have HE : ∀ W : World, (Op.equalIn 10000 26 (.agg #[.int .u64 (uv (q 0)), .int .u64 (uv (q 1)), .int .u64 (uv (q 2)), .int .u64 (uv (q 3))]) (.agg #[.int .u64 0, .int .u64 0, .int .u64 0, .int .u64 0])).run Try.prog W = .ok (eqK f noF) W := fun W => eqk_is hq isK_zero W
    have R : Hid ((spanT (.mk 2 f lo hi ks)).a = !eqK f noF) := by show _ = _; rw [spanT]; cases eqK f noF <;> simp
    clear ih ih' hk hr hw hf hq
    rw [R.out]
    generalize eqK f noF = z at HE
    cases z
    all_goals
      go_enter Try.func48, Try.ntmps48
      go_wp2
      go_ret
      exact ⟨rfl, B1.out⟩
  by_cases h8 : op = 8
  · subst h8
    obtain ⟨k, rfl⟩ : ∃ k, ks = [k] := List.length_eq_one_iff.1 (hf.2.2.2 rfl).1
    obtain ⟨dk, rfl⟩ : ∃ dk, ds = [dk] := List.length_eq_one_iff.1 (by rw [hl]; rfl)
    obtain ⟨kb1, off1, rfl, hb1, hc1⟩ := hr (by simp)
    rw [span8_a]
    have kr := hk 0 k dk rfl rfl
    have nb := below_new w (.cells #[.int .i64 8, .int .u64 (uv (q 0)), .int .u64 (uv (q 1)), .int .u64 (uv (q 2)), .int .u64 (uv (q 3)), .int .i64 lo, .int .i64 hi, .slice (some ⟨kb1, off1, none⟩) 1 c] 29)
    change Calls Try.prog 48 #[.agg #[.int .i64 8, .int .u64 (uv (q 0)), .int .u64 (uv (q 1)), .int .u64 (uv (q 2)), .int .u64 (uv (q 3)), .int .i64 lo, .int .i64 hi, .slice (some ⟨kb1, off1, none⟩) 1 c]] w _
    clear x0 x1 x2 x3 x4 x5 x6 x7 B1
    have B1 := Lib.hid nb
    obtain ⟨⟨x0, x1, x2, x3, x4, x5, x6, x7⟩, -⟩ := (TB.new w ⟨8, q, lo, hi, some ⟨kb1, off1, none⟩, 1, c⟩).all
    by_cases h0 : lo = 0
    · subst h0
      clear ih ih' hk hr hw hf hq kr nb hc1
      go_enter Try.func48, Try.ntmps48
      go_wp2
      go_ret
      exact ⟨rfl, B1.out⟩
    · have q0 : (lo == 0) = false := by rw [beq_eq_false_iff_ne]; exact h0
      obtain ⟨a0, a1, a2, a3, a4, a5, a6, a7⟩ := kid_cells nb hb1 hc1 (i := 0) (d := dk) rfl
      have D1 := Lib.hid (ih' k (by simp) dk _ (kr.keeps nb))
      have R : Hid ((decide (lo = 0) || (spanT k).a) = (spanT k).a) := by show _ = _; rw [decide_eq_false h0, Bool.false_or]
      rw [R.out]
      generalize (spanT k).a = b at *
      simp only [Nat.zero_mul, Nat.add_zero] at a0 a1 a2 a3 a4 a5 a6 a7
      have BB := Lib.hid nb
      clear ih ih' hk hr hw hf hq kr nb hc1
      unfold TD.val at D1
      go_enter Try.func48, Try.ntmps48
      go_wp2_with fail
      refine D1.out.mono ?_
      rintro e w5 ⟨rfl, hb5⟩
      have B5 := Lib.hid (BB.out.trans (hb5.mono BB.out.size))
      clear D1 hb5 a0 a1 a2 a3 a4 a5 a6 a7
      go_wp2
      go_ret
      exact ⟨rfl, B5.out⟩
  have R : Hid ((spanT (.mk op f lo hi ks)).a = true) := span_yes f lo hi ks (by omega)
  have q6 : (op == 6) = false := by rw [beq_eq_false_iff_ne]; exact h6
  have q7 : (op == 7) = false := by rw [beq_eq_false_iff_ne]; exact h7
  have q8 : (op == 8) = false := by rw [beq_eq_false_iff_ne]; exact h8
  have q9 : (op == 9) = false := by rw [beq_eq_false_iff_ne]; exact h9
  have q2 : (op == 2) = false := by rw [beq_eq_false_iff_ne]; exact h2
  clear ih ih' hk hr hw hf hq
  rw [R.out]
  go_enter Try.func48, Try.ntmps48
  go_wp2
  go_ret
  exact ⟨rfl, B1.out⟩
end Y
end Sp
end Go.Proofs.Ytkljagffccommaa
