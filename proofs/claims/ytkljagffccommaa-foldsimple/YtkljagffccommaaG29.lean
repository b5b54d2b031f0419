/- Right. Right, every term. Rows of terms in which sets are joined and the same ones stand once: pure. A row with its sets joined, then its same ones dropped, is the row built term by term: pure. Terms made simpler: the document's way and the program's way are one: pure. The program's way to a simpler term gives the document's: pure. A term made simpler is as simple as can be: made so again it stays: pure. A choice's terms as the document builds them, its sets summed first: pure. An order of terms, in which only the same ones are equal: pure. -/
import Derived.Test.YtkljagffccommaaG27
import Derived.Test.YtkljagffccommaaG28
namespace Go.Proofs.Ytkljagffccommaa
open Go.RowKit
set_option maxRecDepth 100000 in
set_option maxHeartbeats 8000000 in
theorem right_6 (op : Int) (h8 : op = 6) (f : Nat → Bool) (lo hi : Int) (ks : List Tm) (d : TD) (w : World) (ht : TR w (.mk op f lo hi ks) d) (ih : ∀ k ∈ ks, ∀ (d : TD) (w : World), TR w k d → Calls Try.prog 36 #[d.val] w (Rgt w k)) : Calls Try.prog 36 #[d.val] w (Rgt w (.mk op f lo hi ks)) := by
  cases ht with
  | mk _ _ _ _ _ q A c ds hq hl hn hk hr =>
  obtain ⟨n, hnn⟩ : ∃ n, ks.length = n := ⟨_, rfl⟩
  rw [hnn] at hn ⊢
  have HE : ∀ W : World, (Op.equalIn 10000 26 (.agg #[.int .u64 (uv (q 0)), .int .u64 (uv (q 1)), .int .u64 (uv (q 2)), .int .u64 (uv (q 3))]) (.agg #[.int .u64 0, .int .u64 0, .int .u64 0, .int .u64 0])).run Try.prog W = .ok (eqK f noB) W := fun W => eqk_is hq isK_zero W
  have HOK : Hid ((1 ≤ op ∧ op ≤ 8) → (op < 6 → n = 0) → (op = 6 ∨ op = 7 → 2 ≤ n) → (op = 8 → n = 1 ∧ 0 ≤ lo ∧ lo ≤ 200 ∧ -1 ≤ hi ∧ hi ≤ 200 ∧ (0 ≤ hi → lo ≤ hi)) → (∀ k ∈ ks, Rt k) → Rt (.mk op f lo hi ks)) := fun a1 a2 a3 a4 b => .mk _ _ _ _ _ (by rw [hnn]; exact ⟨a1, a2, a3, a4⟩) b
  generalize eqK f noB = z at HE
  have IH := Lib.hid ih; have HK := Lib.hid hk; have HR := Lib.hid hr; have HL := Lib.hid hl; have HN := Lib.hid hnn
  have B1 := Lib.hid (below_new w (.cells #[.int .i64 op, .int .u64 (uv (q 0)), .int .u64 (uv (q 1)), .int .u64 (uv (q 2)), .int .u64 (uv (q 3)), .int .i64 lo, .int .i64 hi, .slice A n c] 29))
  obtain ⟨⟨x0, x1, x2, x3, x4, x5, x6, x7⟩, _⟩ := (TB.new w ⟨op, q, lo, hi, A, n, c⟩).all
  clear ih hk hr hl hnn hq
  unfold TD.val
  subst h8
  by_cases qn : ¬ (n : Int) < 2
  case neg =>
    cases z
    all_goals
      go_enter Try.func36, Try.ntmps36
      go_wp2
      all_goals (go_ret; exact ⟨false, rfl, (fun h => by cases h), B1.out⟩)
  by_cases hlo : lo = 0
  case neg =>
    cases z
    all_goals
      go_enter Try.func36, Try.ntmps36
      go_wp2
      all_goals (go_ret; exact ⟨false, rfl, (fun h => by cases h), B1.out⟩)
  subst hlo
  by_cases hhi : hi = 0
  case neg =>
    cases z
    all_goals
      go_enter Try.func36, Try.ntmps36
      go_wp2
      all_goals (go_ret; exact ⟨false, rfl, (fun h => by cases h), B1.out⟩)
  subst hhi
  cases z
  all_goals
    go_enter Try.func36, Try.ntmps36
    go_wp2_with fail
    all_goals (try (go_ret; exact ⟨false, rfl, (fun h => by cases h), B1.out⟩))
  all_goals
    have HO2 := Lib.hid (HOK.out ⟨by omega, by omega⟩ (fun _ => by omega) (fun _ => by omega) (fun _ => by omega))
    go_loopw [4] (fun v wr => ∃ (i : Nat), i ≤ n ∧ v = .int .i64 (i : Nat) ∧ Hid (∀ (j : Nat) (k : Tm), j < i → ks[j]? = some k → Rt k) ∧ Hid (wr.cell? ⟨w.heap.size, 7, none⟩ = some (.slice A n c) ∧ w.heap.size < wr.heap.size ∧ Below w.heap.size w wr)) (fun v _ => n - (intOf v).toNat)
    case atStart => exact ⟨0, Nat.zero_le _, rfl, Lib.hid (fun j k hj => by omega), Lib.hid ⟨x7, by simp, B1.out⟩⟩
    case round =>
      obtain ⟨i, hi1, rfl, hZ, hW⟩ := hrel
      clear x0 x1 x2 x3 x4 x5 x6 x7 B1 HE HOK
      by_cases hlt : i < n
      · have qi : (i : Int) < (n : Int) := by omega
        have hi2 : i < ks.length := by have := HN.out; omega
        have hi4 : i < ds.length := by have h1 := HL.out; omega
        obtain ⟨kb1, off1, rfl, hb1, hc1⟩ := HR.out (by omega)
        obtain ⟨a0, a1, a2, a3, a4, a5, a6, a7⟩ := kid_cells hW.out.2.2 hb1 hc1 (List.getElem?_eq_getElem hi4)
        have k1 := (HK.out i _ _ (List.getElem?_eq_getElem hi2) (List.getElem?_eq_getElem hi4)).keeps hW.out.2.2
        have tk : Hid (∀ k, ks[i]? = some k → k = ks[i]) := Lib.hid (fun k hk => by rw [List.getElem?_eq_getElem hi2] at hk; cases hk; rfl)
        have hm := List.getElem_mem hi2
        generalize ks[i] = kt at *
        generalize ds[i] = dt at *
        have D1 := Lib.hid (IH.out kt hm dt _ k1)
        have kbl : kb1 < wr.heap.size := Nat.lt_of_lt_of_le hb1 hW.out.2.2.size
        have q6 : IntKind.i64.wrap ((i : Int) + 1) = ((i + 1 : Nat) : Int) := by rw [IntWalk.i64_in _ (by omega)]; omega
        have c7 := hW.out.1
        have cl := hW.out.2.1
        clear hc1 k1 hi2 hi4 hb1 hm
        unfold TD.val at D1
        go_wp2_with fail
        refine D1.out.mono ?_
        rintro e w5 ⟨b, rfl, hokb, hb5⟩
        have OB := Lib.hid hokb
        have W5 : Hid (w5.cell? ⟨w.heap.size, 7, none⟩ = some (.slice (some ⟨kb1, off1, none⟩) n c) ∧ w.heap.size < w5.heap.size ∧ Below w.heap.size w w5) := ⟨(hb5.cell (p := ⟨w.heap.size, 7, none⟩) cl).trans c7, Nat.lt_of_lt_of_le cl hb5.size, hW.out.2.2.trans (hb5.mono hW.out.2.2.size)⟩
        clear D1 hW hb5 hokb a0 a1 a2 a3 a4 a5 a6 a7 kbl c7 cl
        cases b
        · go_wp2
          go_ret
          exact ⟨false, rfl, (fun h => by cases h), W5.out.2.2⟩
        · have Z2 : Hid (∀ (j : Nat) (k : Tm), j < i + 1 → ks[j]? = some k → Rt k) := Lib.hid (fun j k hj hk => by
            rcases Nat.lt_or_ge j i with h | h
            · exact hZ.out j k h hk
            · have : j = i := by omega
              subst this
              rw [tk.out k hk]
              exact OB.out rfl)
          clear hZ tk OB
          go_wp2_with fail
          go_roundw
          case rel => exact ⟨i + 1, by omega, by simp, Z2, W5⟩
          case measure => simp [intOf]; omega
      · have qi : ¬ (i : Int) < (n : Int) := by omega
        have hin : i = n := by omega
        have Z2 := Lib.hid (HO2.out (fun k hk => by
          obtain ⟨j, hj⟩ := List.getElem?_of_mem hk
          obtain ⟨hj2, _⟩ := List.getElem?_eq_some_iff.mp hj
          exact hZ.out j k (by have := HN.out; omega) hj))
        clear hZ HO2
        go_wp2
        go_ret
        exact ⟨true, rfl, fun _ => Z2.out, hW.out.2.2⟩
end Go.Proofs.Ytkljagffccommaa
namespace Go.Proofs.Ytkljagffccommaa
open Go.RowKit
theorem right_any : ∀ (t : Tm) (d : TD) (w : World), TR w t d → Calls Try.prog 36 #[d.val] w (Rgt w t) := by
  intro t
  induction t using Tm.ind with
  | h op f lo hi ks ih =>
  intro d w ht
  by_cases ho : op < 1 ∨ 8 < op
  · exact right_out op ho f lo hi ks d w ht ih
  have h : op = 1 ∨ op = 2 ∨ op = 3 ∨ op = 4 ∨ op = 5 ∨ op = 6 ∨ op = 7 ∨ op = 8 := by omega
  rcases h with h | h | h | h | h | h | h | h
  · exact right_1 op h f lo hi ks d w ht ih
  · exact right_2 op h f lo hi ks d w ht ih
  · exact right_3 op h f lo hi ks d w ht ih
  · exact right_4 op h f lo hi ks d w ht ih
  · exact right_5 op h f lo hi ks d w ht ih
  · exact right_6 op h f lo hi ks d w ht ih
  · exact right_7 op h f lo hi ks d w ht ih
  · exact right_8 op h f lo hi ks d w ht ih
end Go.Proofs.Ytkljagffccommaa
namespace Go.Proofs.Ytkljagffccommaa
open Go.RowKit
mutual
theorem sameT_tr : ∀ (a b c : Tm), sameT a b = true → sameT b c = true → sameT a c = true
  | .mk op f lo hi ks, .mk op' f' lo' hi' ks', .mk op2 f2 lo2 hi2 ks2, h, g => by
    obtain ⟨rfl, h1, rfl, rfl, h2⟩ := (sameT_mk ..).1 h
    obtain ⟨rfl, g1, rfl, rfl, g2⟩ := (sameT_mk ..).1 g
    exact (sameT_mk ..).2 ⟨rfl, (eqK_iff ..).2 fun i hi => ((eqK_iff ..).1 h1 i hi).trans ((eqK_iff ..).1 g1 i hi), rfl, rfl, sameL_tr ks ks' ks2 h2 g2⟩
theorem sameL_tr : ∀ (a b c : List Tm), sameL a b = true → sameL b c = true → sameL a c = true
  | [], [], [], _, _ => by rw [sameL]
  | [], [], _ :: _, _, h => by simp [sameL] at h
  | [], _ :: _, _, h, _ => by simp [sameL] at h
  | _ :: _, [], _, h, _ => by simp [sameL] at h
  | _ :: _, _ :: _, [], _, h => by simp [sameL] at h
  | x :: a, y :: b, z :: c, h, g => by
    rw [sameL, Bool.and_eq_true] at h g ⊢
    exact ⟨sameT_tr x y z h.1 g.1, sameL_tr a b c h.2 g.2⟩
end
def setOf : Tm → Nat → Bool
  | .mk _ f _ _ _ => f
/-- a set joined to a term, if it is one -/
def joinK (f : Nat → Bool) : Tm → Tm
  | .mk op g lo hi ks => if op = 2 then .mk op (fun i => g i || f i) lo hi ks else .mk op g lo hi ks
def isSt (t : Tm) : Bool := decide (opOf t = 2)
def noS (l : List Tm) : Prop := ∀ x ∈ l, opOf x ≠ 2
/-- one term more: a set is joined to the one that is there; one that is there stays away -/
def push (out : List Tm) (k : Tm) : List Tm :=
  if opOf k = 2 then (if out.any isSt = true then out.map (joinK (setOf k)) else out ++ [k])
  else if out.any (fun x => sameT x k) = true then out else out ++ [k]
def norm (o l : List Tm) : List Tm := l.foldl push o
theorem joinK_set (f g : Nat → Bool) (lo hi : Int) (ks : List Tm) : joinK f (.mk 2 g lo hi ks) = .mk 2 (fun i => g i || f i) lo hi ks := rfl
theorem joinK_no (f : Nat → Bool) : ∀ t, opOf t ≠ 2 → joinK f t = t
  | .mk op g lo hi ks, h => by
    show (if op = 2 then _ else _) = _
    exact if_neg h
theorem joinK_op (f : Nat → Bool) (t : Tm) : opOf (joinK f t) = opOf t := by
  by_cases h : opOf t = 2
  · obtain ⟨op, g, lo, hi, ks⟩ := t
    obtain rfl : op = 2 := h
    rfl
  · rw [joinK_no f t h]
theorem joinK_two (f g : Nat → Bool) (t : Tm) : joinK f (joinK g t) = joinK (fun i => g i || f i) t := by
  by_cases h : opOf t = 2
  · obtain ⟨op, h0, lo, hi, ks⟩ := t
    obtain rfl : op = 2 := h
    rw [joinK_set, joinK_set, joinK_set]
    simp only [Bool.or_assoc]
  · rw [joinK_no g t h, joinK_no f t h, joinK_no _ t h]
theorem map_noS (f : Nat → Bool) {l : List Tm} (h : noS l) : l.map (joinK f) = l := by
  induction l with
  | nil => rfl
  | cons a r ih => rw [List.map_cons, joinK_no f a (h a (by simp)), ih fun x hx => h x (by simp [hx])]
theorem any_map_set (f : Nat → Bool) (l : List Tm) : (l.map (joinK f)).any isSt = l.any isSt := by
  rw [List.any_map]
  congr 1
  funext x
  exact congrArg (fun z => decide (z = 2)) (joinK_op f x)
theorem same_op {a b : Tm} (h : sameT a b = true) : opOf a = opOf b := opOf_same h
theorem any_map_same (f : Nat → Bool) (k : Tm) (hk : opOf k ≠ 2) (l : List Tm) : (l.map (joinK f)).any (fun x => sameT x k) = l.any (fun x => sameT x k) := by
  rw [List.any_map]
  congr 1
  funext x
  show sameT (joinK f x) k = sameT x k
  by_cases h : opOf x = 2
  · have h1 : sameT x k = false := by
      cases e : sameT x k with
      | false => rfl
      | true => exact absurd ((same_op e).symm.trans h) hk
    have h2 : sameT (joinK f x) k = false := by
      cases e : sameT (joinK f x) k with
      | false => rfl
      | true => exact absurd ((same_op e).symm.trans ((joinK_op f x).trans h)) hk
    rw [h1, h2]
  · rw [joinK_no f x h]
theorem norm_nil (o : List Tm) : norm o [] = o := rfl
theorem norm_cons (o : List Tm) (k : Tm) (r : List Tm) : norm o (k :: r) = norm (push o k) r := rfl
theorem norm_app (o a b : List Tm) : norm o (a ++ b) = norm (norm o a) b := List.foldl_append
theorem norm_snoc (o a : List Tm) (k : Tm) : norm o (a ++ [k]) = push (norm o a) k := norm_app o a [k]
theorem push_map (f : Nat → Bool) (o : List Tm) (k : Tm) (hk : opOf k ≠ 2) : push (o.map (joinK f)) k = (push o k).map (joinK f) := by
  unfold push
  rw [if_neg hk, if_neg hk, any_map_same f k hk]
  by_cases h : o.any (fun x => sameT x k) = true
  · rw [if_pos h, if_pos h]
  · rw [if_neg h, if_neg h, List.map_append, List.map_cons, joinK_no f k hk]; rfl
theorem norm_map (f : Nat → Bool) (l : List Tm) (hl : noS l) : ∀ o, norm (o.map (joinK f)) l = (norm o l).map (joinK f) := by
  induction l with
  | nil => intro o; rfl
  | cons a r ih =>
    intro o
    rw [norm_cons, norm_cons, push_map f o a (hl a (by simp)), ih fun x hx => hl x (by simp [hx])]
theorem any_push_set (o : List Tm) (k : Tm) (h : o.any isSt = true) : (push o k).any isSt = true := by
  unfold push
  repeat' split
  · rw [any_map_set]; exact h
  · exact h
  · rw [List.any_append, h]; rfl
theorem any_norm_set (l : List Tm) : ∀ o : List Tm, o.any isSt = true → (norm o l).any isSt = true := by
  induction l with
  | nil => exact fun _ h => h
  | cons a r ih => exact fun o h => ih _ (any_push_set o a h)
theorem any_push_same (o : List Tm) (a k : Tm) (hk : opOf k ≠ 2) (h : o.any (fun x => sameT x k) = true) : (push o a).any (fun x => sameT x k) = true := by
  unfold push
  split
  · split
    · rw [any_map_same _ k hk]; exact h
    · rw [List.any_append, h]; rfl
  · split
    · exact h
    · rw [List.any_append, h]; rfl
theorem any_norm_same (k : Tm) (hk : opOf k ≠ 2) (l : List Tm) : ∀ o : List Tm, o.any (fun x => sameT x k) = true → (norm o l).any (fun x => sameT x k) = true := by
  induction l with
  | nil => exact fun _ h => h
  | cons a r ih => exact fun o h => ih _ (any_push_same o a k hk h)
theorem norm_has (k : Tm) (hk : opOf k ≠ 2) (l : List Tm) : ∀ o : List Tm, l.any (fun x => sameT x k) = true → (norm o l).any (fun x => sameT x k) = true := by
  induction l with
  | nil => intro o h; cases h
  | cons a r ih =>
    intro o h
    rw [norm_cons]
    rw [List.any_cons, Bool.or_eq_true] at h
    rcases h with h | h
    · apply any_norm_same k hk
      have ha : opOf a ≠ 2 := by rw [same_op h]; exact hk
      unfold push
      rw [if_neg ha]
      split
      · rename_i h1
        rw [List.any_eq_true] at h1 ⊢
        obtain ⟨x, hx, hs⟩ := h1
        exact ⟨x, hx, sameT_tr x a k hs h⟩
      · rw [List.any_append, Bool.or_eq_true]
        exact .inr (by rw [List.any_cons, h]; rfl)
    · exact ih _ h
/-- at most one set -/
def Few1 (l : List Tm) : Prop := noS l ∨ ∃ a s b, l = a ++ s :: b ∧ noS a ∧ opOf s = 2 ∧ noS b
theorem noS_any {l : List Tm} : noS l ↔ l.any isSt = false := by
  rw [← Bool.not_eq_true, List.any_eq_true]
  constructor
  · rintro h ⟨x, hx, e⟩; exact h x hx (of_decide_eq_true e)
  · intro h x hx e; exact h ⟨x, hx, decide_eq_true e⟩
theorem noS_app {a b : List Tm} (ha : noS a) (hb : noS b) : noS (a ++ b) := fun x hx => by
  rcases List.mem_append.1 hx with h | h
  · exact ha x h
  · exact hb x h
theorem noS_one {k : Tm} (h : opOf k ≠ 2) : noS [k] := fun x hx => by
  rw [List.mem_singleton] at hx; rw [hx]; exact h
theorem Few1.push {l : List Tm} (h : Few1 l) (k : Tm) : Few1 (push l k) := by
  unfold Proofs.Ytkljagffccommaa.push
  rcases h with h | ⟨a, s, b, rfl, ha, hs, hb⟩
  · split
    · rename_i hk
      rw [if_neg (by rw [noS_any.1 h]; simp)]
      exact .inr ⟨l, k, [], rfl, h, hk, fun x hx => by cases hx⟩
    · rename_i hk
      split
      · exact .inl h
      · exact .inl (noS_app h (noS_one hk))
  · split
    · rename_i hk
      rw [if_pos (by rw [List.any_append, List.any_cons, show isSt s = true from decide_eq_true hs]; simp)]
      refine .inr ⟨a, joinK (setOf k) s, b, ?_, ha, (joinK_op _ s).trans hs, hb⟩
      rw [List.map_append, List.map_cons, map_noS _ ha, map_noS _ hb]
    · rename_i hk
      split
      · exact .inr ⟨a, s, b, rfl, ha, hs, hb⟩
      · exact .inr ⟨a, s, b ++ [k], by simp, ha, hs, noS_app hb (noS_one hk)⟩
theorem Few1.norm (l : List Tm) : ∀ {o : List Tm}, Few1 o → Few1 (norm o l) := by
  induction l with
  | nil => exact fun h => h
  | cons a r ih => exact fun h => ih (h.push a)
theorem push_set (o : List Tm) {k : Tm} (hk : opOf k = 2) : push o k = if o.any isSt = true then o.map (joinK (setOf k)) else o ++ [k] := by unfold push; exact if_pos hk
theorem push_no (o : List Tm) {k : Tm} (hk : opOf k ≠ 2) : push o k = if o.any (fun x => sameT x k) = true then o else o ++ [k] := by unfold push; exact if_neg hk
theorem push_join (f : Nat → Bool) (o : List Tm) (s : Tm) (h : opOf s = 2) : push o (joinK f s) = (push o s).map (joinK f) := by
  rw [push_set o ((joinK_op f s).trans h), push_set o h]
  by_cases e : o.any isSt = true
  · rw [if_pos e, if_pos e, List.map_map]
    apply List.map_congr_left
    intro x _
    obtain ⟨op, g, lo, hi, ks⟩ := s
    obtain rfl : op = 2 := h
    exact (joinK_two f g x).symm
  · rw [if_neg e, if_neg e, List.map_append, List.map_cons, map_noS f (noS_any.2 (Bool.eq_false_iff.2 e))]
    rfl
theorem norm_push (o : List Tm) {l : List Tm} (hl : Few1 l) (k : Tm) : norm o (push l k) = push (norm o l) k := by
  by_cases hk : opOf k = 2
  · rcases hl with h | ⟨a, s, b, rfl, ha, hs, hb⟩
    · have e : push l k = l ++ [k] := by
        unfold push
        rw [if_pos hk, if_neg (by rw [noS_any.1 h]; simp)]
      rw [e, norm_snoc]
    · have e : push (a ++ s :: b) k = a ++ joinK (setOf k) s :: b := by
        unfold push
        rw [if_pos hk, if_pos (by rw [List.any_append, List.any_cons, show isSt s = true from decide_eq_true hs]; simp), List.map_append, List.map_cons, map_noS _ ha, map_noS _ hb]
      rw [e, norm_app, norm_cons, push_join _ _ s hs, norm_map _ b hb, norm_app, norm_cons]
      have hset : (norm (push (norm o a) s) b).any isSt = true := by
        apply any_norm_set
        rw [push_set _ hs]
        split
        · rename_i h; rw [any_map_set]; exact h
        · rw [List.any_append, Bool.or_eq_true]; exact .inr (by rw [List.any_cons, show isSt s = true from decide_eq_true hs]; rfl)
      rw [push_set _ hk, if_pos hset]
  · by_cases h : l.any (fun x => sameT x k) = true
    · have e : push l k = l := by rw [push_no _ hk, if_pos h]
      have e2 : push (norm o l) k = norm o l := by rw [push_no _ hk, if_pos (norm_has k hk l o h)]
      rw [e, e2]
    · have e : push l k = l ++ [k] := by rw [push_no _ hk, if_neg h]
      rw [e, norm_snoc]
theorem norm_norm (l : List Tm) : ∀ o, norm o (norm [] l) = norm o l := by
  have key : ∀ (r : List Tm) (n : List Tm), Few1 n → ∀ o, norm o (norm n r) = norm (norm o n) r := by
    intro r
    induction r with
    | nil => intro n _ o; rfl
    | cons a r ih =>
      intro n hn o
      rw [norm_cons, ih _ (hn.push a) o, norm_push o hn a, norm_cons]
  intro o
  exact key l [] (.inl fun x hx => by cases hx) o
end Go.Proofs.Ytkljagffccommaa
namespace Go.Proofs.Ytkljagffccommaa
open Go.RowKit
/-- one term more, if it is not there -/
def push1 (o : List Tm) (k : Tm) : List Tm := if o.any (fun x => sameT x k) = true then o else o ++ [k]
def once (o l : List Tm) : List Tm := l.foldl push1 o
/-- one term more; a set is joined to the one that is there -/
def pushS (o : List Tm) (k : Tm) : List Tm := if opOf k = 2 ∧ o.any isSt = true then o.map (joinK (setOf k)) else o ++ [k]
def joinS (o l : List Tm) : List Tm := l.foldl pushS o
theorem once_cons (o : List Tm) (k : Tm) (r : List Tm) : once o (k :: r) = once (push1 o k) r := rfl
theorem once_app (o a b : List Tm) : once o (a ++ b) = once (once o a) b := List.foldl_append
theorem joinS_snoc (o a : List Tm) (k : Tm) : joinS o (a ++ [k]) = pushS (joinS o a) k := List.foldl_append
theorem once_norm (l : List Tm) (h : noS l) : ∀ o, once o l = norm o l := by
  induction l with
  | nil => intro o; rfl
  | cons a r ih =>
    intro o
    rw [once_cons, norm_cons, push_no o (h a (by simp)), ih fun x hx => h x (by simp [hx])]
    rfl
theorem noS_norm (l : List Tm) (h : noS l) : ∀ o, noS o → noS (norm o l) := by
  induction l with
  | nil => exact fun _ h => h
  | cons a r ih =>
    intro o ho
    rw [norm_cons]
    apply ih fun x hx => h x (by simp [hx])
    rw [push_no o (h a (by simp))]
    split
    · exact ho
    · exact noS_app ho (noS_one (h a (by simp)))
theorem push1_set (o : List Tm) (ho : noS o) (k : Tm) (hk : opOf k = 2) : push1 o k = o ++ [k] := by
  unfold push1
  rw [if_neg]
  rw [List.any_eq_true]
  rintro ⟨x, hx, e⟩
  exact ho x hx ((same_op e).trans hk)
theorem once_map (f : Nat → Bool) {l : List Tm} (h : Few1 l) : once [] (l.map (joinK f)) = (once [] l).map (joinK f) := by
  have nn : noS [] := fun x hx => by cases hx
  rcases h with h | ⟨a, s, b, rfl, ha, hs, hb⟩
  · rw [map_noS f h, once_norm l h, map_noS f (noS_norm l h [] nn)]
  · have na : noS (norm [] a) := noS_norm a ha [] nn
    rw [List.map_append, List.map_cons, map_noS f ha, map_noS f hb, once_app, once_cons, once_app, once_cons, once_norm a ha,
      push1_set _ na _ ((joinK_op f s).trans hs), push1_set _ na _ hs, once_norm b hb, once_norm b hb]
    have e : norm [] a ++ [joinK f s] = (norm [] a ++ [s]).map (joinK f) := by rw [List.map_append, map_noS f na]; rfl
    rw [e, norm_map f b hb]
theorem any_once_set (l : List Tm) : ∀ o : List Tm, o.any isSt = true → (once o l).any isSt = true := by
  induction l with
  | nil => exact fun _ h => h
  | cons a r ih =>
    intro o h
    refine ih _ ?_
    unfold push1
    split
    · exact h
    · rw [List.any_append, h]; rfl
theorem once_join (l : List Tm) : Few1 (joinS [] l) ∧ once [] (joinS [] l) = norm [] l := by
  have nn : noS [] := fun x hx => by cases hx
  have key : ∀ n, ∀ l : List Tm, l.length = n → Few1 (joinS [] l) ∧ once [] (joinS [] l) = norm [] l := by
    intro n
    induction n with
    | zero =>
      intro l hl
      obtain rfl := List.length_eq_zero_iff.1 hl
      exact ⟨.inl nn, rfl⟩
    | succ n ih =>
      intro l hl
      have hne : l ≠ [] := by rintro rfl; cases hl
      obtain ⟨p, k, rfl⟩ : ∃ p k, l = p ++ [k] := ⟨_, _, (List.dropLast_concat_getLast hne).symm⟩
      obtain ⟨h1, h2⟩ := ih p (by rw [List.length_append] at hl; simpa using hl)
      rw [joinS_snoc, norm_snoc]
      unfold pushS
      by_cases hk : opOf k = 2
      · rcases h1 with h | ⟨a, s, b, e, ha, hs, hb⟩
        · rw [if_neg (by rw [noS_any.1 h]; simp)]
          refine ⟨.inr ⟨_, k, [], rfl, h, hk, nn⟩, ?_⟩
          have hN : noS (norm [] p) := by rw [← h2, once_norm _ h]; exact noS_norm _ h [] nn
          rw [once_app, h2, once_cons, push1_set _ hN k hk, push_set _ hk, if_neg (by rw [noS_any.1 hN]; simp)]
          rfl
        · have hany : (joinS [] p).any isSt = true := by
            rw [e, List.any_append, List.any_cons, show isSt s = true from decide_eq_true hs]; simp
          rw [if_pos ⟨hk, hany⟩]
          have hf : Few1 (joinS [] p) := .inr ⟨a, s, b, e, ha, hs, hb⟩
          constructor
          · rw [e, List.map_append, List.map_cons, map_noS _ ha, map_noS _ hb]
            exact .inr ⟨a, _, b, rfl, ha, (joinK_op _ s).trans hs, hb⟩
          · have hN : (norm [] p).any isSt = true := by
              rw [← h2, e, once_app, once_cons]
              apply any_once_set
              have na : noS (once [] a) := by rw [once_norm a ha]; exact noS_norm a ha [] nn
              rw [push1_set _ na s hs, List.any_append, List.any_cons, show isSt s = true from decide_eq_true hs]; simp
            rw [once_map _ hf, h2, push_set _ hk, if_pos hN]
      · rw [if_neg (fun h => hk h.1)]
        constructor
        · rcases h1 with h | ⟨a, s, b, e, ha, hs, hb⟩
          · exact .inl (noS_app h (noS_one hk))
          · rw [e]; exact .inr ⟨a, s, b ++ [k], by simp, ha, hs, noS_app hb (noS_one hk)⟩
        · rw [once_app, h2, once_cons, push_no _ hk]; rfl
  exact key l.length l rfl
end Go.Proofs.Ytkljagffccommaa
namespace Go.Proofs.Ytkljagffccommaa
open Go.RowKit
def noF : Nat → Bool := fun _ => false
def lfT (op : Int) : Tm := .mk op noF 0 0 []
def kidsOf : Tm → List Tm
  | .mk _ _ _ _ ks => ks
def around (op : Int) : List Tm → Int → Tm
  | [], no => lfT no
  | [x], _ => x
  | x :: y :: r, _ => .mk op noF 0 0 (x :: y :: r)
def isStar : Tm → Bool
  | .mk op _ lo hi _ => decide (op = 8 ∧ lo = 0 ∧ hi = -1)
def sRep (f : Nat → Bool) (lo hi : Int) (k : Tm) : Tm :=
  if hi = 0 ∨ opOf k = 1 then lfT 1
  else if opOf k = 9 then (if lo = 0 then lfT 1 else k)
  else if (lo = 1 ∧ hi = 1) ∨ isStar k = true then k
  else .mk 8 f lo hi [k]
def isNo (t : Tm) : Bool := decide (opOf t = 9)
def isEm (t : Tm) : Bool := decide (opOf t = 1)
def flat6 (s : Tm) : List Tm := if opOf s = 6 then kidsOf s else if opOf s = 1 then [] else [s]
def flat7 (s : Tm) : List Tm := if opOf s = 7 then kidsOf s else if opOf s = 9 then [] else [s]
def sCat (l : List Tm) : Tm := if l.any isNo = true then lfT 9 else around 6 (l.flatMap flat6) 1
def sAlt (l : List Tm) : Tm := around 7 (norm [] (l.flatMap flat7)) 9
/-- simpler, as the document says -/
def leafS (op : Int) (f : Nat → Bool) (lo hi : Int) (ks l : List Tm) : Tm :=
  if op = 6 then sCat l else if op = 7 then sAlt l else if op = 2 ∧ eqK f noF = true then lfT 9
  else if op = 8 then sRep f lo hi (l.headD (lfT 1)) else .mk op f lo hi ks
mutual
def simT : Tm → Tm
  | .mk op f lo hi ks => leafS op f lo hi ks (simL ks)
def simL : List Tm → List Tm
  | [] => []
  | k :: r => simT k :: simL r
end
def sRow (g : List Tm) : Tm := if g.any isNo = true then lfT 9 else around 6 (g.filter fun x => !isEm x) 1
def sCho (g : List Tm) : Tm := around 7 (once [] (joinS [] (g.filter fun x => !isNo x))) 9
def spl (op : Int) (s : Tm) : List Tm := if opOf s = op then kidsOf s else [s]
/-- what a term is made, and what it puts into a row's and a choice's list -/
structure Pr where
  s : Tm
  g6 : List Tm
  g7 : List Tm
def one8 (f : Nat → Bool) (lo hi : Int) : List Tm → Tm
  | [k] => sRep f lo hi k
  | l => .mk 8 f lo hi l
def proS (op : Int) (f : Nat → Bool) (lo hi : Int) (l : List Pr) : Tm :=
  if op = 6 then sRow (l.flatMap (·.g6)) else if op = 7 then sCho (l.flatMap (·.g7)) else if op = 2 ∧ eqK f noF = true then lfT 9
  else if op = 8 then one8 f lo hi (l.map (·.s)) else .mk op f lo hi (l.map (·.s))
def proP (op : Int) (l : List Pr) (s : Tm) : Pr := ⟨s, if op = 6 then l.flatMap (·.g6) else spl 6 s, if op = 7 then l.flatMap (·.g7) else spl 7 s⟩
mutual
def sPr : Tm → Pr
  | .mk op f lo hi ks => proP op (sPrL ks) (proS op f lo hi (sPrL ks))
def sPrL : List Tm → List Pr
  | [] => []
  | k :: r => sPr k :: sPrL r
end
theorem sPrL_map : ∀ ks, sPrL ks = ks.map sPr
  | [] => rfl
  | k :: r => by rw [sPrL, sPrL_map r]; rfl
theorem simL_map : ∀ ks, simL ks = ks.map simT
  | [] => rfl
  | k :: r => by rw [simL, simL_map r]; rfl
/-- as many kids as its kind wants -/
inductive Wl : Tm → Prop
  | mk (op : Int) (f : Nat → Bool) (lo hi : Int) (ks : List Tm) (h : op ≠ 6 → op ≠ 7 → op ≠ 8 → ks = []) (h8 : op = 8 → ks.length = 1) (hk : ∀ k ∈ ks, Wl k) : Wl (.mk op f lo hi ks)
/-- a row has no rows, nothings and nones in it, a choice no choices and nones -/
inductive Nice : Tm → Prop
  | mk (op : Int) (f : Nat → Bool) (lo hi : Int) (ks : List Tm) (h6 : op = 6 → ∀ k ∈ ks, opOf k ≠ 6 ∧ opOf k ≠ 1 ∧ opOf k ≠ 9) (h7 : op = 7 → ∀ k ∈ ks, opOf k ≠ 7 ∧ opOf k ≠ 9) (hk : ∀ k ∈ ks, Nice k) : Nice (.mk op f lo hi ks)
theorem Nice.leaf (op : Int) (f : Nat → Bool) (lo hi : Int) : Nice (.mk op f lo hi []) := .mk _ _ _ _ _ (fun _ k hk => by cases hk) (fun _ k hk => by cases hk) fun k hk => by cases hk
theorem Nice.kids {t : Tm} (h : Nice t) : ∀ k ∈ kidsOf t, Nice k := by cases h with | mk _ _ _ _ _ _ _ hk => exact hk
theorem Nice.six {t : Tm} (h : Nice t) (e : opOf t = 6) : ∀ k ∈ kidsOf t, opOf k ≠ 6 ∧ opOf k ≠ 1 ∧ opOf k ≠ 9 := by cases h with | mk _ _ _ _ _ h6 _ _ => exact h6 e
theorem Nice.seven {t : Tm} (h : Nice t) (e : opOf t = 7) : ∀ k ∈ kidsOf t, opOf k ≠ 7 ∧ opOf k ≠ 9 := by cases h with | mk _ _ _ _ _ _ h7 _ => exact h7 e
theorem nice_flat6 {s : Tm} (h : Nice s) : ∀ x ∈ flat6 s, Nice x := by
  intro x hx
  unfold flat6 at hx
  split at hx
  · exact h.kids x hx
  · split at hx
    · cases hx
    · rw [List.mem_singleton] at hx; rw [hx]; exact h
theorem op_flat6 {s : Tm} (h : Nice s) (h9 : opOf s ≠ 9) : ∀ x ∈ flat6 s, opOf x ≠ 6 ∧ opOf x ≠ 1 ∧ opOf x ≠ 9 := by
  intro x hx
  unfold flat6 at hx
  split at hx
  · rename_i e; exact h.six e x hx
  · split at hx
    · cases hx
    · rw [List.mem_singleton] at hx; rw [hx]; exact ⟨by assumption, by assumption, h9⟩
theorem nice_flat7 {s : Tm} (h : Nice s) : ∀ x ∈ flat7 s, Nice x := by
  intro x hx
  unfold flat7 at hx
  split at hx
  · exact h.kids x hx
  · split at hx
    · cases hx
    · rw [List.mem_singleton] at hx; rw [hx]; exact h
theorem op_flat7 {s : Tm} (h : Nice s) : ∀ x ∈ flat7 s, opOf x ≠ 7 ∧ opOf x ≠ 9 := by
  intro x hx
  unfold flat7 at hx
  split at hx
  · rename_i e; exact h.seven e x hx
  · split at hx
    · cases hx
    · rw [List.mem_singleton] at hx; rw [hx]; exact ⟨by assumption, by assumption⟩
theorem nice_joinK (f : Nat → Bool) {t : Tm} (h : Nice t) : Nice (joinK f t) := by
  by_cases e : opOf t = 2
  · obtain ⟨op, g, lo, hi, ks⟩ := t
    obtain rfl : op = 2 := e
    rw [joinK_set]
    exact .mk _ _ _ _ _ (fun x => absurd x (by omega)) (fun x => absurd x (by omega)) h.kids
  · rw [joinK_no f t e]; exact h
theorem push_all {P : Tm → Prop} (hj : ∀ f t, P t → P (joinK f t)) {o : List Tm} {k : Tm} (ho : ∀ x ∈ o, P x) (hk : P k) : ∀ x ∈ push o k, P x := by
  have hs : ∀ x ∈ o ++ [k], P x := fun x hx => by
    rcases List.mem_append.1 hx with h | h
    · exact ho x h
    · rw [List.mem_singleton] at h; rw [h]; exact hk
  unfold push
  intro x hx
  split at hx
  · split at hx
    · obtain ⟨y, hy, rfl⟩ := List.mem_map.1 hx
      exact hj _ y (ho y hy)
    · exact hs x hx
  · split at hx
    · exact ho x hx
    · exact hs x hx
theorem norm_all {P : Tm → Prop} (hj : ∀ f t, P t → P (joinK f t)) (l : List Tm) : ∀ o : List Tm, (∀ x ∈ o, P x) → (∀ x ∈ l, P x) → ∀ x ∈ norm o l, P x := by
  induction l with
  | nil => exact fun _ h _ => h
  | cons a r ih => exact fun o ho hl => ih _ (push_all hj ho (hl a (by simp))) fun x hx => hl x (by simp [hx])
theorem around6_nice {l : List Tm} (h : ∀ x ∈ l, Nice x) (ho : ∀ x ∈ l, opOf x ≠ 6 ∧ opOf x ≠ 1 ∧ opOf x ≠ 9) : Nice (around 6 l 1) := by
  rcases l with _ | ⟨a, _ | ⟨b, r⟩⟩
  · exact .leaf _ _ _ _
  · exact h a (by simp)
  · exact .mk _ _ _ _ _ (fun _ => ho) (fun x => absurd x (by omega)) h
theorem around7_nice {l : List Tm} (h : ∀ x ∈ l, Nice x) (ho : ∀ x ∈ l, opOf x ≠ 7 ∧ opOf x ≠ 9) : Nice (around 7 l 9) := by
  rcases l with _ | ⟨a, _ | ⟨b, r⟩⟩
  · exact .leaf _ _ _ _
  · exact h a (by simp)
  · exact .mk _ _ _ _ _ (fun x => absurd x (by omega)) (fun _ => ho) h
theorem flat6_around {l : List Tm} (ho : ∀ x ∈ l, opOf x ≠ 6 ∧ opOf x ≠ 1 ∧ opOf x ≠ 9) : flat6 (around 6 l 1) = l ∧ opOf (around 6 l 1) ≠ 9 := by
  rcases l with _ | ⟨a, _ | ⟨b, r⟩⟩
  · exact ⟨rfl, by show (1 : Int) ≠ 9; omega⟩
  · obtain ⟨h1, h2, h3⟩ := ho a (by simp)
    refine ⟨?_, h3⟩
    show flat6 a = [a]
    unfold flat6
    rw [if_neg h1, if_neg h2]
  · exact ⟨rfl, by show (6 : Int) ≠ 9; omega⟩
theorem flat7_around {l : List Tm} (ho : ∀ x ∈ l, opOf x ≠ 7 ∧ opOf x ≠ 9) : flat7 (around 7 l 9) = l := by
  rcases l with _ | ⟨a, _ | ⟨b, r⟩⟩
  · rfl
  · obtain ⟨h1, h2⟩ := ho a (by simp)
    show flat7 a = [a]
    unfold flat7
    rw [if_neg h1, if_neg h2]
  · rfl
end Go.Proofs.Ytkljagffccommaa
namespace Go.Proofs.Ytkljagffccommaa
open Go.RowKit
structure Fits (t : Tm) : Prop where
  same : (sPr t).s = simT t
  nice : Nice (simT t)
  no6 : (sPr t).g6.any isNo = true → opOf (simT t) = 9
  g6 : (sPr t).g6.any isNo = false → opOf (simT t) ≠ 9 ∧ (sPr t).g6.filter (fun x => !isEm x) = flat6 (simT t)
  g7 : ∀ o, norm o ((sPr t).g7.filter (fun x => !isNo x)) = norm o (flat7 (simT t))
theorem isNo_iff (t : Tm) : isNo t = true ↔ opOf t = 9 := decide_eq_true_iff
theorem any_no {l : List Tm} (h : ∀ x ∈ l, opOf x ≠ 9) : l.any isNo = false := by
  rw [← Bool.not_eq_true, List.any_eq_true]
  rintro ⟨x, hx, e⟩
  exact h x hx ((isNo_iff x).1 e)
theorem filt_all {l : List Tm} (h : ∀ x ∈ l, opOf x ≠ 1) : l.filter (fun x => !isEm x) = l := by
  apply List.filter_eq_self.2
  intro x hx
  simp [isEm, h x hx]
theorem filt_no {l : List Tm} (h : ∀ x ∈ l, opOf x ≠ 9) : l.filter (fun x => !isNo x) = l := by
  apply List.filter_eq_self.2
  intro x hx
  simp [isNo, h x hx]
theorem spl6 {s : Tm} (h : Nice s) : ((spl 6 s).any isNo = true → opOf s = 9) ∧ ((spl 6 s).any isNo = false → opOf s ≠ 9 ∧ (spl 6 s).filter (fun x => !isEm x) = flat6 s) := by
  unfold spl flat6
  by_cases e : opOf s = 6
  · rw [if_pos e, if_pos e, any_no fun x hx => (h.six e x hx).2.2]
    exact ⟨fun x => (by cases x), fun _ => ⟨by omega, filt_all fun x hx => (h.six e x hx).2.1⟩⟩
  · rw [if_neg e, if_neg e]
    constructor
    · intro x
      exact (isNo_iff s).1 (by simpa using x)
    · intro x
      have h9 : opOf s ≠ 9 := fun y => by
        have : isNo s = true := (isNo_iff s).2 y
        rw [List.any_cons, this] at x
        cases x
      refine ⟨h9, ?_⟩
      by_cases e1 : opOf s = 1
      · rw [if_pos e1]; simp [isEm, e1]
      · rw [if_neg e1]; simp [isEm, e1]
theorem spl7 {s : Tm} (h : Nice s) : (spl 7 s).filter (fun x => !isNo x) = flat7 s := by
  unfold spl flat7
  by_cases e : opOf s = 7
  · rw [if_pos e, if_pos e, filt_no fun x hx => (h.seven e x hx).2]
  · rw [if_neg e, if_neg e]
    by_cases e9 : opOf s = 9
    · rw [if_pos e9]; simp [isNo, e9]
    · rw [if_neg e9]; simp [isNo, e9]
theorem fits_list {ks : List Tm} (h : ∀ k ∈ ks, Fits k) :
    (ks.map sPr).map (·.s) = simL ks ∧ (((ks.map sPr).flatMap (·.g6)).any isNo = true → (simL ks).any isNo = true) ∧
    (((ks.map sPr).flatMap (·.g6)).any isNo = false → (simL ks).any isNo = false ∧ ((ks.map sPr).flatMap (·.g6)).filter (fun x => !isEm x) = (simL ks).flatMap flat6) ∧
    ∀ o, norm o (((ks.map sPr).flatMap (·.g7)).filter (fun x => !isNo x)) = norm o ((simL ks).flatMap flat7) := by
  induction ks with
  | nil => exact ⟨rfl, fun x => (by cases x), fun _ => ⟨rfl, rfl⟩, fun _ => rfl⟩
  | cons k r ih =>
    have F := h k (by simp)
    obtain ⟨h1, h2, h3, h4⟩ := ih fun x hx => h x (by simp [hx])
    simp only [simL, List.map_cons, List.flatMap_cons]
    refine ⟨by rw [h1, F.same], ?_, ?_, ?_⟩
    · intro x
      rw [List.any_append, Bool.or_eq_true] at x
      rw [List.any_cons, Bool.or_eq_true]
      rcases x with x | x
      · exact .inl ((isNo_iff _).2 (F.no6 x))
      · exact .inr (h2 x)
    · intro x
      rw [List.any_append, Bool.or_eq_false_iff] at x
      obtain ⟨a1, a2⟩ := F.g6 x.1
      obtain ⟨b1, b2⟩ := h3 x.2
      refine ⟨?_, ?_⟩
      · rw [List.any_cons, b1, Bool.or_false]
        exact Bool.eq_false_iff.2 fun y => a1 ((isNo_iff _).1 y)
      · rw [List.filter_append, a2, b2]
    · intro o
      rw [List.filter_append, norm_app, F.g7 o, h4, norm_app]
theorem nice_sim {op : Int} {f : Nat → Bool} {lo hi : Int} {ks : List Tm} (h : Wl (.mk op f lo hi ks)) (hN : ∀ x ∈ simL ks, Nice x) : Nice (simT (.mk op f lo hi ks)) := by
  cases h with
  | mk _ _ _ _ _ hl h8 _ =>
  rw [simT]
  unfold leafS
  split
  · unfold sCat
    split
    · exact .leaf _ _ _ _
    · rename_i hn
      have hn' : ∀ x ∈ simL ks, opOf x ≠ 9 := fun x hx e => hn (List.any_eq_true.2 ⟨x, hx, (isNo_iff x).2 e⟩)
      apply around6_nice
      · intro x hx
        obtain ⟨s, hs, hx⟩ := List.mem_flatMap.1 hx
        exact nice_flat6 (hN s hs) x hx
      · intro x hx
        obtain ⟨s, hs, hx⟩ := List.mem_flatMap.1 hx
        exact op_flat6 (hN s hs) (hn' s hs) x hx
  · split
    · unfold sAlt
      apply around7_nice
      · apply norm_all (fun f t h => nice_joinK f h) _ _ (fun x hx => by cases hx)
        intro x hx
        obtain ⟨s, hs, hx⟩ := List.mem_flatMap.1 hx
        exact nice_flat7 (hN s hs) x hx
      · apply norm_all (P := fun x => opOf x ≠ 7 ∧ opOf x ≠ 9) (fun f t h => by rw [joinK_op]; exact h) _ _ (fun x hx => by cases hx)
        intro x hx
        obtain ⟨s, hs, hx⟩ := List.mem_flatMap.1 hx
        exact op_flat7 (hN s hs) x hx
    · split
      · exact .leaf _ _ _ _
      · split
        · rename_i e8
          obtain ⟨k, rfl⟩ : ∃ k, ks = [k] := by
            have := h8 e8
            rcases ks with _ | ⟨k, _ | ⟨_, _⟩⟩
            · cases this
            · exact ⟨k, rfl⟩
            · simp at this
          rw [simL, simL]
          have hk : Nice (simT k) := hN _ (by rw [simL]; simp)
          show Nice (sRep f lo hi (simT k))
          unfold sRep
          repeat' split
          · exact .leaf _ _ _ _
          · exact .leaf _ _ _ _
          · exact hk
          · exact hk
          · exact .mk _ _ _ _ _ (fun x => absurd x (by omega)) (fun x => absurd x (by omega)) fun x hx => by
              rw [List.mem_singleton] at hx; rw [hx]; exact hk
        · rename_i h6 h7 h2 h8'
          rw [hl h6 h7 h8']
          exact .leaf _ _ _ _
theorem simple_fits (t : Tm) : Wl t → Fits t := by
  induction t using Tm.ind with
  | h op f lo hi ks ih =>
    intro h
    have hk : ∀ k ∈ ks, Fits k := by cases h with | mk _ _ _ _ _ _ _ hk => exact fun k hm => ih k hm (hk k hm)
    obtain ⟨h1, h2, h3, h4⟩ := fits_list hk
    have hN : ∀ x ∈ simL ks, Nice x := fun x hx => by
      rw [simL_map] at hx
      obtain ⟨k, hm, rfl⟩ := List.mem_map.1 hx
      exact (hk k hm).nice
    have hnice := nice_sim h hN
    have hsame : proS op f lo hi (sPrL ks) = simT (.mk op f lo hi ks) := by
      rw [sPrL_map, simT]
      unfold proS leafS
      split
      · unfold sRow sCat
        cases e : ((ks.map sPr).flatMap (·.g6)).any isNo with
        | true => rw [h2 e]; rfl
        | false => rw [(h3 e).1, (h3 e).2]
      · split
        · unfold sCho sAlt
          rw [(once_join _).2, h4]
        · split
          · rfl
          · split
            · rename_i e8
              rw [h1]
              obtain ⟨k, rfl⟩ : ∃ k, ks = [k] := by
                cases h with
                | mk _ _ _ _ _ _ h8 _ =>
                have := h8 e8
                rcases ks with _ | ⟨k, _ | ⟨_, _⟩⟩
                · cases this
                · exact ⟨k, rfl⟩
                · simp at this
              rfl
            · rename_i h6 h7 hh2 h8'
              rw [h1]
              cases h with
              | mk _ _ _ _ _ hl _ _ => rw [hl h6 h7 h8', simL]
    have es : (sPr (.mk op f lo hi ks)).s = simT (.mk op f lo hi ks) := by rw [sPr]; exact hsame
    have e6 : (sPr (.mk op f lo hi ks)).g6 = if op = 6 then (ks.map sPr).flatMap (·.g6) else spl 6 (simT (.mk op f lo hi ks)) := by
      rw [sPr, ← hsame, sPrL_map]; rfl
    have e7 : (sPr (.mk op f lo hi ks)).g7 = if op = 7 then (ks.map sPr).flatMap (·.g7) else spl 7 (simT (.mk op f lo hi ks)) := by
      rw [sPr, ← hsame, sPrL_map]; rfl
    refine ⟨es, hnice, ?_, ?_, ?_⟩
    · rw [e6]
      split
      · rename_i o6
        intro x
        rw [simT]; unfold leafS
        rw [if_pos o6]; unfold sCat
        rw [if_pos (h2 x)]; rfl
      · exact (spl6 hnice).1
    · rw [e6]
      split
      · rename_i o6
        intro x
        obtain ⟨a, b⟩ := h3 x
        rw [simT]; unfold leafS
        rw [if_pos o6]; unfold sCat
        rw [if_neg (by rw [a]; simp), b]
        have hn' : ∀ y ∈ simL ks, opOf y ≠ 9 := fun y hy e => by
          rw [List.any_eq_false] at a
          exact a y hy ((isNo_iff y).2 e)
        have ho : ∀ y ∈ (simL ks).flatMap flat6, opOf y ≠ 6 ∧ opOf y ≠ 1 ∧ opOf y ≠ 9 := fun y hy => by
          obtain ⟨s, hs, hy⟩ := List.mem_flatMap.1 hy
          exact op_flat6 (hN s hs) (hn' s hs) y hy
        exact ⟨(flat6_around ho).2, (flat6_around ho).1.symm⟩
      · exact (spl6 hnice).2
    · rw [e7]
      intro o
      split
      · rename_i o7
        rw [h4, simT]; unfold leafS
        rw [if_neg (by omega), if_pos o7]; unfold sAlt
        rw [flat7_around, norm_norm]
        apply norm_all (P := fun x => opOf x ≠ 7 ∧ opOf x ≠ 9) (fun f t h => by rw [joinK_op]; exact h) _ _ (fun x hx => by cases hx)
        intro x hx
        obtain ⟨s, hs, hx⟩ := List.mem_flatMap.1 hx
        exact op_flat7 (hN s hs) x hx
      · rw [spl7 hnice]
end Go.Proofs.Ytkljagffccommaa
namespace Go.Proofs.Ytkljagffccommaa
open Go.RowKit
/-- at most one set; no term is the same as one ahead of it -/
structure Dst (l : List Tm) : Prop where
  few : Few1 l
  apart : l.Pairwise fun a b => opOf b ≠ 2 → sameT a b = false
theorem same_no {a b : Tm} (h : opOf a ≠ opOf b) : sameT a b = false := by
  cases e : sameT a b with
  | false => rfl
  | true => exact absurd (same_op e) h
theorem Dst.push {l : List Tm} (h : Dst l) (k : Tm) : Dst (push l k) := by
  refine ⟨h.few.push k, ?_⟩
  have h' := h.apart
  unfold Proofs.Ytkljagffccommaa.push
  split
  · rename_i hk
    split
    · rw [List.pairwise_map]
      refine h'.imp ?_
      intro a b hab hb
      rw [joinK_op] at hb
      rw [joinK_no _ b hb]
      by_cases ha : opOf a = 2
      · exact same_no (by rw [joinK_op, ha]; exact fun e => hb e.symm)
      · rw [joinK_no _ a ha]; exact hab hb
    · rw [List.pairwise_append]
      exact ⟨h', List.pairwise_singleton _ _, fun a _ b hb hb2 => by rw [List.mem_singleton] at hb; rw [hb] at hb2; exact absurd hk hb2⟩
  · split
    · exact h'
    · rename_i hn
      rw [List.pairwise_append]
      refine ⟨h', List.pairwise_singleton _ _, fun a ha b hb _ => ?_⟩
      rw [List.mem_singleton] at hb
      rw [hb]
      cases e : sameT a k with
      | false => rfl
      | true => exact absurd (List.any_eq_true.2 ⟨a, ha, e⟩) hn
theorem norm_dst (l : List Tm) : ∀ o, Dst o → Dst (norm o l) := by
  induction l with
  | nil => exact fun _ h => h
  | cons a r ih => exact fun o h => ih _ (h.push a)
theorem dst_nil : Dst [] := ⟨.inl (fun x hx => by cases hx), .nil⟩
theorem few_left {p : List Tm} {k : Tm} (h : Few1 (p ++ [k])) : Few1 p ∧ (opOf k = 2 → noS p) := by
  rcases h with h | ⟨a, s, b, e, ha, hs, hb⟩
  · exact ⟨.inl fun x hx => h x (by simp [hx]), fun hk => absurd hk (h k (by simp))⟩
  · rcases List.eq_nil_or_concat b with rfl | ⟨b', z, rfl⟩
    · obtain ⟨rfl, e2⟩ := List.append_inj' e rfl
      exact ⟨.inl ha, fun _ => ha⟩
    · rw [List.concat_eq_append, ← List.cons_append, ← List.append_assoc] at e
      obtain ⟨rfl, e2⟩ := List.append_inj' e rfl
      obtain rfl : k = z := by simpa using e2
      rw [List.concat_eq_append] at hb
      exact ⟨.inr ⟨a, s, b', rfl, ha, hs, fun x hx => hb x (by simp [hx])⟩, fun hk => absurd hk (hb k (by simp))⟩
theorem norm_fix (l : List Tm) (h : Dst l) : norm [] l = l := by
  have key : ∀ n, ∀ l : List Tm, l.length = n → Dst l → norm [] l = l := by
    intro n
    induction n with
    | zero =>
      intro l hl _
      obtain rfl := List.length_eq_zero_iff.1 hl
      rfl
    | succ n ih =>
      intro l hl hd
      have hne : l ≠ [] := by rintro rfl; cases hl
      obtain ⟨p, k, rfl⟩ : ∃ p k, l = p ++ [k] := ⟨_, _, (List.dropLast_concat_getLast hne).symm⟩
      obtain ⟨f1, f2⟩ := few_left hd.few
      obtain ⟨a1, _, a3⟩ := List.pairwise_append.1 hd.apart
      rw [norm_snoc, ih p (by rw [List.length_append] at hl; simpa using hl) ⟨f1, a1⟩]
      by_cases hk : opOf k = 2
      · rw [push_set _ hk, if_neg (by rw [noS_any.1 (f2 hk)]; simp)]
      · rw [push_no _ hk, if_neg]
        rw [List.any_eq_true]
        rintro ⟨x, hx, e⟩
        have := a3 x hx k (by simp) hk
        rw [this] at e
        cases e
  exact key l.length l rfl h
/-- as simple as can be -/
inductive Sml : Tm → Prop
  | leaf (op : Int) (f : Nat → Bool) (lo hi : Int) (h : op ≠ 6 ∧ op ≠ 7 ∧ op ≠ 8) (h2 : op = 2 → eqK f noF = false) : Sml (.mk op f lo hi [])
  | cat (ks : List Tm) (h2 : 2 ≤ ks.length) (ho : ∀ k ∈ ks, opOf k ≠ 6 ∧ opOf k ≠ 1 ∧ opOf k ≠ 9) (hk : ∀ k ∈ ks, Sml k) : Sml (.mk 6 noF 0 0 ks)
  | alt (ks : List Tm) (h2 : 2 ≤ ks.length) (ho : ∀ k ∈ ks, opOf k ≠ 7 ∧ opOf k ≠ 9) (hd : Dst ks) (hk : ∀ k ∈ ks, Sml k) : Sml (.mk 7 noF 0 0 ks)
  | rep (f : Nat → Bool) (lo hi : Int) (k : Tm) (h0 : hi ≠ 0) (h1 : ¬ (lo = 1 ∧ hi = 1)) (ho : opOf k ≠ 1 ∧ opOf k ≠ 9 ∧ isStar k = false) (hk : Sml k) : Sml (.mk 8 f lo hi [k])
theorem Sml.kids {t : Tm} (h : Sml t) : ∀ k ∈ kidsOf t, Sml k := by
  cases h with
  | leaf => exact fun k hk => by cases hk
  | cat _ _ _ hk => exact hk
  | alt _ _ _ _ hk => exact hk
  | rep _ _ _ _ _ _ _ hk => exact fun x hx => by rw [show x = _ from List.mem_singleton.1 hx]; exact hk
theorem Sml.none (op : Int) (h : op = 1 ∨ op = 9) : Sml (lfT op) := .leaf _ _ _ _ ⟨by omega, by omega, by omega⟩ fun e => by omega
theorem sn_flat6 {s : Tm} (h : Sml s) : ∀ x ∈ flat6 s, Sml x := by
  intro x hx
  unfold flat6 at hx
  split at hx
  · exact h.kids x hx
  · split at hx
    · cases hx
    · rw [List.mem_singleton] at hx; rw [hx]; exact h
theorem sn_flat7 {s : Tm} (h : Sml s) : ∀ x ∈ flat7 s, Sml x := by
  intro x hx
  unfold flat7 at hx
  split at hx
  · exact h.kids x hx
  · split at hx
    · cases hx
    · rw [List.mem_singleton] at hx; rw [hx]; exact h
theorem sn_joinK (f : Nat → Bool) {t : Tm} (h : Sml t) : Sml (joinK f t) := by
  by_cases e : opOf t = 2
  · cases h with
    | leaf op g lo hi h h2 =>
      obtain rfl : op = 2 := e
      rw [joinK_set]
      refine .leaf _ _ _ _ h fun _ => ?_
      have h3 := h2 rfl
      cases e2 : eqK (fun i => g i || f i) noF with
      | false => rfl
      | true =>
        have : eqK g noF = true := (eqK_iff _ _).2 fun i hi => by
          have := (eqK_iff _ _).1 e2 i hi
          exact (Bool.or_eq_false_iff.1 this).1
        rw [this] at h3; cases h3
    | cat => exact absurd e (by show ¬ (6 : Int) = 2; omega)
    | alt => exact absurd e (by show ¬ (7 : Int) = 2; omega)
    | rep => exact absurd e (by show ¬ (8 : Int) = 2; omega)
  · rw [joinK_no f t e]; exact h
theorem sn_nice {t : Tm} (h : Sml t) : Nice t := by
  induction h with
  | leaf => exact .leaf _ _ _ _
  | cat ks _ ho _ ih => exact .mk _ _ _ _ _ (fun _ => ho) (fun x => absurd x (by omega)) ih
  | alt ks _ ho _ _ ih => exact .mk _ _ _ _ _ (fun x => absurd x (by omega)) (fun _ => ho) ih
  | rep f lo hi k _ _ _ _ ih => exact .mk _ _ _ _ _ (fun x => absurd x (by omega)) (fun x => absurd x (by omega)) fun x hx => by rw [List.mem_singleton] at hx; rw [hx]; exact ih
theorem sim_sn (t : Tm) : Wl t → Sml (simT t) := by
  induction t using Tm.ind with
  | h op f lo hi ks ih =>
    intro h
    cases h with
    | mk _ _ _ _ _ hl h8 hk =>
    have hN : ∀ x ∈ simL ks, Sml x := fun x hx => by
      rw [simL_map] at hx
      obtain ⟨k, hm, rfl⟩ := List.mem_map.1 hx
      exact ih k hm (hk k hm)
    rw [simT]
    unfold leafS
    split
    · unfold sCat
      split
      · exact .none _ (.inr rfl)
      · rename_i hn
        have hn' : ∀ x ∈ simL ks, opOf x ≠ 9 := fun x hx e => hn (List.any_eq_true.2 ⟨x, hx, (isNo_iff x).2 e⟩)
        have hs : ∀ x ∈ (simL ks).flatMap flat6, Sml x := fun x hx => by
          obtain ⟨s, hs, hx⟩ := List.mem_flatMap.1 hx
          exact sn_flat6 (hN s hs) x hx
        have ho : ∀ x ∈ (simL ks).flatMap flat6, opOf x ≠ 6 ∧ opOf x ≠ 1 ∧ opOf x ≠ 9 := fun x hx => by
          obtain ⟨s, hs, hx⟩ := List.mem_flatMap.1 hx
          exact op_flat6 (sn_nice (hN s hs)) (hn' s hs) x hx
        generalize (simL ks).flatMap flat6 = l at hs ho
        rcases l with _ | ⟨a, _ | ⟨b, r⟩⟩
        · exact .none _ (.inl rfl)
        · exact hs a (by simp)
        · exact .cat _ (by simp) ho hs
    · split
      · unfold sAlt
        have hs : ∀ x ∈ norm [] ((simL ks).flatMap flat7), Sml x := by
          apply norm_all (fun f t h => sn_joinK f h) _ _ (fun x hx => by cases hx)
          intro x hx
          obtain ⟨s, hs, hx⟩ := List.mem_flatMap.1 hx
          exact sn_flat7 (hN s hs) x hx
        have ho : ∀ x ∈ norm [] ((simL ks).flatMap flat7), opOf x ≠ 7 ∧ opOf x ≠ 9 := by
          apply norm_all (P := fun x => opOf x ≠ 7 ∧ opOf x ≠ 9) (fun f t h => by rw [joinK_op]; exact h) _ _ (fun x hx => by cases hx)
          intro x hx
          obtain ⟨s, hs, hx⟩ := List.mem_flatMap.1 hx
          exact op_flat7 (sn_nice (hN s hs)) x hx
        have hd : Dst (norm [] ((simL ks).flatMap flat7)) := norm_dst _ _ dst_nil
        generalize norm [] ((simL ks).flatMap flat7) = l at hs ho hd
        rcases l with _ | ⟨a, _ | ⟨b, r⟩⟩
        · exact .none _ (.inr rfl)
        · exact hs a (by simp)
        · exact .alt _ (by simp) ho hd hs
      · split
        · exact .none _ (.inr rfl)
        · split
          · rename_i e8
            obtain ⟨k, rfl⟩ : ∃ k, ks = [k] := by
              have := h8 e8
              rcases ks with _ | ⟨k, _ | ⟨_, _⟩⟩
              · cases this
              · exact ⟨k, rfl⟩
              · simp at this
            have hk1 : Sml (simT k) := hN _ (by rw [simL, simL]; simp)
            rw [simL, simL]
            show Sml (sRep f lo hi (simT k))
            unfold sRep
            split
            · exact .none _ (.inl rfl)
            · rename_i n1
              split
              · split
                · exact .none _ (.inl rfl)
                · exact hk1
              · rename_i n2
                split
                · exact hk1
                · rename_i n3
                  exact .rep f lo hi _ (fun e => n1 (.inl e)) (fun e => n3 (.inl e)) ⟨fun e => n1 (.inr e), n2, Bool.eq_false_iff.2 fun e => n3 (.inr e)⟩ hk1
          · rename_i h6 h7 h2 h8'
            rw [hl h6 h7 h8']
            refine .leaf _ _ _ _ ⟨h6, h7, h8'⟩ fun e => ?_
            cases e2 : eqK f noF with
            | false => rfl
            | true => exact absurd ⟨e, e2⟩ h2
theorem sn_fix {t : Tm} (h : Sml t) : simT t = t := by
  have hL : ∀ ks : List Tm, (∀ k ∈ ks, simT k = k) → simL ks = ks := fun ks hk => by
    rw [simL_map]
    exact (List.map_congr_left fun k hm => hk k hm).trans (List.map_id _)
  induction h with
  | leaf op f lo hi h h2 =>
    rw [simT]; unfold leafS
    rw [if_neg h.1, if_neg h.2.1, if_neg (fun e => by rw [h2 e.1] at e; cases e.2), if_neg h.2.2]
  | cat ks h2 ho _ ih =>
    rw [simT, hL ks ih]; unfold leafS
    rw [if_pos rfl]; unfold sCat
    rw [if_neg (by rw [any_no fun x hx => (ho x hx).2.2]; simp)]
    have : ks.flatMap flat6 = ks := by
      have : ∀ l : List Tm, (∀ k ∈ l, opOf k ≠ 6 ∧ opOf k ≠ 1 ∧ opOf k ≠ 9) → l.flatMap flat6 = l := by
        intro l hl
        induction l with
        | nil => rfl
        | cons a r ih =>
          obtain ⟨a1, a2, _⟩ := hl a (by simp)
          rw [List.flatMap_cons, ih fun x hx => hl x (by simp [hx])]
          unfold flat6
          rw [if_neg a1, if_neg a2]; rfl
      exact this ks ho
    rw [this]
    rcases ks with _ | ⟨a, _ | ⟨b, r⟩⟩
    · simp at h2
    · simp at h2
    · rfl
  | alt ks h2 ho hd _ ih =>
    rw [simT, hL ks ih]; unfold leafS
    rw [if_neg (by omega), if_pos rfl]; unfold sAlt
    have : ks.flatMap flat7 = ks := by
      have : ∀ l : List Tm, (∀ k ∈ l, opOf k ≠ 7 ∧ opOf k ≠ 9) → l.flatMap flat7 = l := by
        intro l hl
        induction l with
        | nil => rfl
        | cons a r ih =>
          obtain ⟨a1, a2⟩ := hl a (by simp)
          rw [List.flatMap_cons, ih fun x hx => hl x (by simp [hx])]
          unfold flat7
          rw [if_neg a1, if_neg a2]; rfl
      exact this ks ho
    rw [this, norm_fix ks hd]
    rcases ks with _ | ⟨a, _ | ⟨b, r⟩⟩
    · simp at h2
    · simp at h2
    · rfl
  | rep f lo hi k h0 h1 ho _ ih =>
    rw [simT, simL, simL, ih]; unfold leafS
    rw [if_neg (by omega), if_neg (by omega), if_neg (by omega), if_pos rfl]
    show sRep f lo hi k = _
    unfold sRep
    rw [if_neg (by rintro (e | e); exact h0 e; exact ho.1 e), if_neg ho.2.1, if_neg (by rintro (e | e); exact h1 e; rw [ho.2.2] at e; cases e)]
theorem sim_twice (t : Tm) (h : Wl t) : simT (simT t) = simT t := sn_fix (sim_sn t h)
end Go.Proofs.Ytkljagffccommaa
namespace Go.Proofs.Ytkljagffccommaa
open Go.RowKit
def sumS (s : Nat → Bool) (k : Tm) : Nat → Bool := if opOf k = 2 then (fun i => s i || setOf k i) else s
def sumF (l : List Tm) : Nat → Bool := l.foldl sumS noF
/-- one term more, the sum of the sets being known; the first half tells that no set was met yet -/
def aStep (S : Nat → Bool) (st : Bool × List Tm) (k : Tm) : Bool × List Tm :=
  if opOf k = 2 then (false, if st.1 = true then st.2 ++ [.mk 2 S 0 0 []] else st.2)
  else (st.1, if st.2.any (fun x => sameT x k) = true then st.2 else st.2 ++ [k])
def setTo (S : Nat → Bool) (x : Tm) : Tm := if opOf x = 2 then .mk 2 S 0 0 [] else x
theorem setTo_op (S : Nat → Bool) (x : Tm) : opOf (setTo S x) = opOf x := by
  unfold setTo
  split
  · rename_i h; rw [h]; rfl
  · rfl
theorem any_setTo (S : Nat → Bool) (k : Tm) (hk : opOf k ≠ 2) (l : List Tm) : (l.map (setTo S)).any (fun x => sameT x k) = l.any (fun x => sameT x k) := by
  rw [List.any_map]
  congr 1
  funext x
  show sameT (setTo S x) k = sameT x k
  by_cases h : opOf x = 2
  · rw [same_no (show opOf x ≠ opOf k by rw [h]; exact fun e => hk e.symm), same_no (by rw [setTo_op, h]; exact fun e => hk e.symm)]
  · unfold setTo; rw [if_neg h]
theorem norm_any_set (l : List Tm) : ∀ o : List Tm, (norm o l).any isSt = (o.any isSt || l.any isSt) := by
  induction l with
  | nil => intro o; simp [norm]
  | cons a r ih =>
    intro o
    rw [norm_cons, ih, List.any_cons, ← Bool.or_assoc]
    congr 1
    by_cases ha : opOf a = 2
    · rw [show isSt a = true from decide_eq_true ha, Bool.or_true, push_set _ ha]
      split
      · rename_i h; rw [any_map_set]; exact h
      · rw [List.any_append, List.any_cons, show isSt a = true from decide_eq_true ha]; simp
    · rw [show isSt a = false from decide_eq_false ha, Bool.or_false, push_no _ ha]
      split
      · rfl
      · rw [List.any_append, List.any_cons, show isSt a = false from decide_eq_false ha]; simp
theorem snoc_ind {P : List Tm → Prop} (h0 : P []) (h1 : ∀ p k, P p → P (p ++ [k])) : ∀ l, P l := by
  have key : ∀ n, ∀ l : List Tm, l.length = n → P l := by
    intro n
    induction n with
    | zero => intro l hl; rw [List.length_eq_zero_iff.1 hl]; exact h0
    | succ n ih =>
      intro l hl
      have hne : l ≠ [] := by rintro rfl; cases hl
      rw [← List.dropLast_concat_getLast hne] at hl ⊢
      exact h1 _ _ (ih _ (by rw [List.length_append] at hl; simpa using hl))
  exact fun l => key l.length l rfl
theorem a_inv (S : Nat → Bool) (l : List Tm) : l.foldl (aStep S) (true, []) = (!(l.any isSt), (norm [] l).map (setTo S)) := by
  induction l using snoc_ind with
  | h0 => rfl
  | h1 p k ih =>
    rw [List.foldl_append, ih, norm_snoc]
    show aStep S _ k = _
    unfold aStep
    rw [List.any_append, List.any_cons]
    by_cases hk : opOf k = 2
    · rw [if_pos hk, push_set _ hk, show isSt k = true from decide_eq_true hk]
      have hn := norm_any_set p []
      rw [List.any_nil, Bool.false_or] at hn
      rw [hn]
      cases e : p.any isSt with
      | true =>
        simp only [Bool.not_true, Bool.false_eq_true, if_false, if_true, Bool.true_or, List.map_map, Prod.mk.injEq, true_and]
        apply List.map_congr_left
        intro x _
        show setTo S x = setTo S (joinK (setOf k) x)
        by_cases hx : opOf x = 2
        · unfold setTo; rw [if_pos hx, if_pos ((joinK_op _ x).trans hx)]
        · rw [joinK_no _ x hx]
      | false =>
        simp only [Bool.not_false, Bool.false_eq_true, if_false, if_true, Bool.true_or, Bool.or_true, Bool.not_true, List.map_append, Prod.mk.injEq, true_and]
        congr 1
        show [_] = [setTo S k]
        unfold setTo; rw [if_pos hk]
    · rw [if_neg hk, push_no _ hk, show isSt k = false from decide_eq_false hk]
      simp only [any_setTo S k hk, List.any_nil, Bool.or_false]
      congr 1
      split
      · rfl
      · rw [List.map_append]
        congr 1
        show [k] = [setTo S k]
        unfold setTo; rw [if_neg hk]
theorem sum_none {l : List Tm} (h : noS l) : sumF l = noF := by
  induction l using snoc_ind with
  | h0 => rfl
  | h1 p k ih =>
    unfold sumF at ih ⊢
    rw [List.foldl_append, ih fun x hx => h x (by simp [hx])]
    show sumS noF k = noF
    unfold sumS
    rw [if_neg (h k (by simp))]
theorem norm_sets (l : List Tm) (h : ∀ k ∈ l, opOf k = 2 → ∃ f, k = .mk 2 f 0 0 []) : ∀ x ∈ norm [] l, opOf x = 2 → x = .mk 2 (sumF l) 0 0 [] := by
  induction l using snoc_ind with
  | h0 => exact fun x hx => by cases hx
  | h1 p k ih =>
    have ih := ih fun x hx => h x (by simp [hx])
    have es : sumF (p ++ [k]) = sumS (sumF p) k := by unfold sumF; rw [List.foldl_append]; rfl
    rw [norm_snoc, es]
    unfold sumS
    by_cases hk : opOf k = 2
    · rw [if_pos hk, push_set _ hk]
      obtain ⟨f, rfl⟩ := h k (by simp) hk
      split
      · intro x hx e
        obtain ⟨y, hy, rfl⟩ := List.mem_map.1 hx
        rw [joinK_op] at e
        rw [ih y hy e, joinK_set]
      · rename_i hn
        have hp : noS p := by
          rw [noS_any]
          have := norm_any_set p []
          rw [List.any_nil, Bool.false_or] at this
          rw [← this]; exact Bool.eq_false_iff.2 hn
        intro x hx e
        rcases List.mem_append.1 hx with hx | hx
        · have hN : noS (norm [] p) := noS_norm p hp [] fun x hx => by cases hx
          exact absurd e (hN x hx)
        · rw [List.mem_singleton] at hx
          rw [hx, sum_none hp]
          show Tm.mk 2 f 0 0 [] = .mk 2 (fun i => noF i || f i) 0 0 []
          simp [noF]
    · rw [if_neg hk, push_no _ hk]
      split
      · exact ih
      · intro x hx e
        rcases List.mem_append.1 hx with hx | hx
        · exact ih x hx e
        · rw [List.mem_singleton] at hx; rw [hx] at e; exact absurd e hk
theorem a_norm (l : List Tm) (h : ∀ k ∈ l, opOf k = 2 → ∃ f, k = .mk 2 f 0 0 []) : (l.foldl (aStep (sumF l)) (true, [])).2 = norm [] l := by
  rw [a_inv]
  show (norm [] l).map (setTo (sumF l)) = norm [] l
  have hs := norm_sets l h
  generalize norm [] l = n at hs
  induction n with
  | nil => rfl
  | cons a r ih =>
    rw [List.map_cons, ih fun x hx => hs x (by simp [hx])]
    congr 1
    unfold setTo
    by_cases e : opOf a = 2
    · rw [if_pos e]; exact (hs a (by simp) e).symm
    · rw [if_neg e]
end Go.Proofs.Ytkljagffccommaa
namespace Go.Proofs.Ytkljagffccommaa
open Go.RowKit
def cmpI (a b : Int) : Int := if a < b then -1 else if b < a then 1 else 0
def orC (a b : Int) : Int := if a = 0 then b else a
/-- rows of numbers, the first difference tells -/
def lexC : List Int → List Int → Int
  | [], [] => 0
  | [], _ :: _ => -1
  | _ :: _, [] => 1
  | a :: x, b :: y => orC (cmpI a b) (lexC x y)
theorem cmpI_zero {a b : Int} : cmpI a b = 0 ↔ a = b := by unfold cmpI; constructor <;> intro h <;> (repeat' split at *) <;> omega
theorem cmpI_neg {a b : Int} : cmpI a b < 0 ↔ a < b := by unfold cmpI; constructor <;> intro h <;> (repeat' split at *) <;> omega
theorem cmpI_swap (a b : Int) : cmpI b a = - cmpI a b := by unfold cmpI; repeat' split <;> omega
theorem lexC_zero : ∀ x y, lexC x y = 0 ↔ x = y
  | [], [] => by simp [lexC]
  | [], _ :: _ => by simp [lexC]
  | _ :: _, [] => by simp [lexC]
  | a :: x, b :: y => by
    rw [lexC]
    unfold orC
    split
    · rename_i h
      rw [cmpI_zero.1 h, lexC_zero x y]
      simp
    · rename_i h
      constructor
      · intro e; exact absurd e h
      · intro e
        obtain ⟨rfl, _⟩ := List.cons.inj e
        exact absurd (cmpI_zero.2 rfl) h
theorem lexC_swap : ∀ x y, lexC y x = - lexC x y
  | [], [] => rfl
  | [], _ :: _ => rfl
  | _ :: _, [] => rfl
  | a :: x, b :: y => by
    rw [lexC, lexC, lexC_swap x y, cmpI_swap a b]
    unfold orC
    by_cases h : cmpI a b = 0
    · rw [if_pos h, if_pos (by omega)]
    · rw [if_neg h, if_neg (by omega)]
theorem lexC_trans : ∀ x y z, lexC x y ≤ 0 → lexC y z ≤ 0 → lexC x z ≤ 0
  | [], _, [], _, _ => by rw [lexC]; omega
  | [], _, _ :: _, _, _ => by rw [lexC]; omega
  | _ :: _, [], _, h, _ => by rw [lexC] at h; omega
  | _ :: _, _ :: _, [], _, h => by rw [lexC] at h; omega
  | a :: x, b :: y, c :: z, h, g => by
    rw [lexC] at h g ⊢
    unfold orC at h g ⊢
    have hs : ∀ a b : Int, cmpI a b = 0 ∨ cmpI a b < 0 ∨ 0 < cmpI a b := fun a b => by omega
    by_cases h1 : cmpI a b = 0
    · rw [if_pos h1] at h
      obtain rfl := cmpI_zero.1 h1
      by_cases h2 : cmpI a c = 0
      · rw [if_pos h2] at g ⊢
        exact lexC_trans x y z h g
      · rw [if_neg h2] at g ⊢; exact g
    · rw [if_neg h1] at h
      have l1 := cmpI_neg.1 (show cmpI a b < 0 by omega)
      by_cases h2 : cmpI b c = 0
      · obtain rfl := cmpI_zero.1 h2
        rw [if_neg h1]; exact h
      · rw [if_neg h2] at g
        have l2 := cmpI_neg.1 (show cmpI b c < 0 by omega)
        have l3 := cmpI_neg.2 (show a < c by omega)
        rw [if_neg (by omega)]; omega
/-- a word of a set's bits -/
def wd (f : Nat → Bool) (i : Nat) : Nat → Nat
  | 0 => 0
  | n + 1 => wd f i n ||| (if f (64 * i + n) = true then 2 ^ n else 0)
theorem wd_bit (f : Nat → Bool) (i n j : Nat) : (wd f i n).testBit j = (decide (j < n) && f (64 * i + j)) := by
  induction n with
  | zero => simp [wd]
  | succ n ih =>
    rw [wd, Nat.testBit_or, ih]
    by_cases e : j = n
    · subst e
      by_cases h : f (64 * i + j) = true
      · rw [if_pos h, Nat.testBit_two_pow_self, h]; simp
      · rw [if_neg h, Nat.zero_testBit, Bool.eq_false_iff.2 h]; simp
    · have e1 : (if f (64 * i + n) = true then 2 ^ n else 0).testBit j = false := by
        split
        · exact Nat.testBit_two_pow_of_ne (fun h => e h.symm)
        · exact Nat.zero_testBit j
      rw [e1, Bool.or_false]
      congr 1
      exact decide_eq_decide.2 (by omega)
def setK (f : Nat → Bool) : List Int := [(wd f 0 64 : Int), (wd f 1 64 : Int), (wd f 2 64 : Int), (wd f 3 64 : Int)]
theorem wd_eq {f g : Nat → Bool} {i : Nat} : wd f i 64 = wd g i 64 ↔ ∀ j, j < 64 → f (64 * i + j) = g (64 * i + j) := by
  constructor
  · intro h j hj
    have h1 := wd_bit f i 64 j
    rw [h, wd_bit, decide_eq_true hj, Bool.true_and, Bool.true_and] at h1
    exact h1.symm
  · intro h
    apply Nat.eq_of_testBit_eq
    intro j
    rw [wd_bit, wd_bit]
    by_cases hj : j < 64
    · rw [h j hj]
    · rw [decide_eq_false hj]; rfl
theorem setK_eq (f g : Nat → Bool) : setK f = setK g ↔ eqK f g = true := by
  rw [eqK_iff]
  unfold setK
  constructor
  · intro h n hn
    simp only [List.cons.injEq, Int.ofNat_inj, and_true] at h
    obtain ⟨h0, h1, h2, h3⟩ := h
    have hb : n = 64 * (n / 64) + n % 64 := by omega
    have hm : n % 64 < 64 := by omega
    have hq : n / 64 = 0 ∨ n / 64 = 1 ∨ n / 64 = 2 ∨ n / 64 = 3 := by omega
    rw [hb]
    rcases hq with e | e | e | e <;> rw [e]
    · exact wd_eq.1 h0 _ hm
    · exact wd_eq.1 h1 _ hm
    · exact wd_eq.1 h2 _ hm
    · exact wd_eq.1 h3 _ hm
  · intro h
    have : ∀ i, i < 4 → wd f i 64 = wd g i 64 := fun i hi => wd_eq.2 fun j hj => h _ (by omega)
    rw [this 0 (by omega), this 1 (by omega), this 2 (by omega), this 3 (by omega)]
mutual
/-- a term as a row of numbers -/
def encT : Tm → List Int
  | .mk op f lo hi ks => setK f ++ (op :: lo :: hi :: (ks.length : Int) :: encL ks)
def encL : List Tm → List Int
  | [] => []
  | k :: r => encT k ++ encL r
end
mutual
/-- which term is first: as the program finds it -/
def cmpT : Tm → Tm → Int
  | .mk op f lo hi ks, .mk op' f' lo' hi' ks' =>
    if eqK f f' = true then
      (if orC (cmpI op op') (orC (cmpI lo lo') (orC (cmpI hi hi') (cmpI ks.length ks'.length))) = 0 then cmpL ks ks'
       else orC (cmpI op op') (orC (cmpI lo lo') (orC (cmpI hi hi') (cmpI ks.length ks'.length))))
    else lexC (setK f) (setK f')
def cmpL : List Tm → List Tm → Int
  | [], [] => 0
  | [], _ :: _ => -1
  | _ :: _, [] => 1
  | a :: x, b :: y => orC (cmpT a b) (cmpL x y)
end
theorem orC_assoc (a b c : Int) : orC (orC a b) c = orC a (orC b c) := by
  unfold orC
  by_cases h : a = 0
  · rw [if_pos h, if_pos h]
  · rw [if_neg h, if_neg h, if_neg h]
theorem orC_zero (a : Int) : orC a 0 = a := by unfold orC; split <;> omega
theorem zero_orC (a : Int) : orC 0 a = a := if_pos rfl
theorem lexC_app : ∀ (a b x y : List Int), a.length = b.length → lexC (a ++ x) (b ++ y) = orC (lexC a b) (lexC x y)
  | [], [], x, y, _ => by rw [lexC, zero_orC]; rfl
  | [], _ :: _, _, _, h => by cases h
  | _ :: _, [], _, _, h => by cases h
  | p :: a, q :: b, x, y, h => by
    rw [List.cons_append, List.cons_append, lexC, lexC, lexC_app a b x y (by simpa using h), orC_assoc]
mutual
theorem enc_cmp : ∀ (a b : Tm) (x y : List Int), lexC (encT a ++ x) (encT b ++ y) = orC (cmpT a b) (lexC x y)
  | .mk op f lo hi ks, .mk op' f' lo' hi' ks', x, y => by
    rw [encT, encT, List.append_assoc, List.append_assoc, lexC_app (setK f) (setK f') _ _ rfl, cmpT]
    by_cases e : eqK f f' = true
    · rw [(setK_eq f f').2 e, (lexC_zero _ _).2 rfl, zero_orC, if_pos e]
      simp only [List.cons_append, lexC]
      by_cases hn : ks.length = ks'.length
      · rw [encL_cmp ks ks' x y hn]
        have : cmpI (ks.length : Int) (ks'.length : Int) = 0 := cmpI_zero.2 (by rw [hn])
        rw [this]
        generalize cmpI op op' = c1
        generalize cmpI lo lo' = c2
        generalize cmpI hi hi' = c3
        by_cases z1 : c1 = 0 <;> by_cases z2 : c2 = 0 <;> by_cases z3 : c3 = 0 <;> simp_all [orC]
      · have : cmpI (ks.length : Int) (ks'.length : Int) ≠ 0 := fun h => hn (by have := cmpI_zero.1 h; omega)
        generalize cmpI (ks.length : Int) (ks'.length : Int) = c4 at this
        generalize cmpI op op' = c1
        generalize cmpI lo lo' = c2
        generalize cmpI hi hi' = c3
        by_cases z1 : c1 = 0 <;> by_cases z2 : c2 = 0 <;> by_cases z3 : c3 = 0 <;> simp_all [orC]
    · rw [if_neg e]
      have h : lexC (setK f) (setK f') ≠ 0 := fun h => e ((setK_eq f f').1 ((lexC_zero _ _).1 h))
      unfold orC
      rw [if_neg h, if_neg h]
theorem encL_cmp : ∀ (a b : List Tm) (x y : List Int), a.length = b.length → lexC (encL a ++ x) (encL b ++ y) = orC (cmpL a b) (lexC x y)
  | [], [], x, y, _ => by rw [encL, cmpL, zero_orC]; rfl
  | [], _ :: _, _, _, h => by cases h
  | _ :: _, [], _, _, h => by cases h
  | p :: a, q :: b, x, y, h => by
    rw [encL, encL, List.append_assoc, List.append_assoc, enc_cmp p q, encL_cmp a b x y (by simpa using h), cmpL, orC_assoc]
end
theorem cmpT_lex (a b : Tm) : cmpT a b = lexC (encT a) (encT b) := by
  have := enc_cmp a b [] []
  rw [List.append_nil, List.append_nil] at this
  rw [this, show lexC [] [] = 0 from rfl, orC_zero]
mutual
theorem cmpT_same : ∀ (a b : Tm), cmpT a b = 0 ↔ sameT a b = true
  | .mk op f lo hi ks, .mk op' f' lo' hi' ks' => by
    rw [cmpT, sameT_mk]
    by_cases e : eqK f f' = true
    · rw [if_pos e]
      have hL := cmpL_same ks ks'
      have h1 := @cmpI_zero op op'
      have h2 := @cmpI_zero lo lo'
      have h3 := @cmpI_zero hi hi'
      have h4 := @cmpI_zero (ks.length : Int) (ks'.length : Int)
      have h5 : sameL ks ks' = true → (ks.length : Int) = ks'.length := fun h => by
        by_cases hn : ks.length = ks'.length
        · rw [hn]
        · rw [sameL_len _ _ hn] at h; cases h
      rw [← hL]
      rw [← hL] at h5
      unfold orC
      constructor
      · intro h
        repeat' split at h
        all_goals simp_all
      · rintro ⟨a1, -, a2, a3, a4⟩
        have a5 := h5 a4
        rw [h1.2 a1, h2.2 a2, h3.2 a3, h4.2 a5]
        simpa using a4
    · rw [if_neg e]
      constructor
      · intro h; exact absurd ((setK_eq f f').1 ((lexC_zero _ _).1 h)) e
      · rintro ⟨_, h, _⟩; exact absurd h e
theorem cmpL_same : ∀ (a b : List Tm), cmpL a b = 0 ↔ sameL a b = true
  | [], [] => by simp [cmpL, sameL]
  | [], _ :: _ => by simp [cmpL, sameL]
  | _ :: _, [] => by simp [cmpL, sameL]
  | p :: a, q :: b => by
    rw [cmpL, sameL, Bool.and_eq_true, ← cmpT_same p q, ← cmpL_same a b]
    unfold orC
    split
    · rename_i h; exact ⟨fun x => ⟨h, x⟩, fun x => x.2⟩
    · rename_i h; exact ⟨fun x => absurd x h, fun x => absurd x.1 h⟩
end
end Go.Proofs.Ytkljagffccommaa
