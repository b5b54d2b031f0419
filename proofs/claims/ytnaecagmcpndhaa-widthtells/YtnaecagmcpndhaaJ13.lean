/- Span: what its closure tells. Span: its closure's walk. Span: what its loops keep. -/
import Derived.Test.YtnaecagmcpndhaaW3
namespace Go.Proofs.Ytnaecagmcpndhaa
open Go.RowKit
mutual
def spanT : Tm → Ex
  | .mk op f lo hi ks => if op = 1 ∨ op = 4 ∨ op = 5 then ⟨0, 0, true⟩ else if op = 3 then ⟨1, 1, true⟩ else if op = 2 then (if eqK f noB then ⟨0, 0, false⟩ else ⟨1, 1, true⟩)
      else if op = 6 then catX ks ⟨0, 0, true⟩ else if op = 7 then altX ks ⟨0, 0, false⟩ else if op = 8 then repX ks lo hi else ⟨0, 0, false⟩
def catX : List Tm → Ex → Ex
  | [], x => x
  | k :: r, x => catX r (thenF x (spanT k))
def altX : List Tm → Ex → Ex
  | [], x => x
  | k :: r, x => altX r (orF x (spanT k))
def repX : List Tm → Int → Int → Ex
  | [k], lo, hi => repeatF (spanT k) lo hi
  | _, _, _ => ⟨0, 0, false⟩
end
theorem eo0 (b : Bool) : Eo ⟨0, 0, b⟩ := ⟨sm0, .inr sm0⟩
theorem eo1 (b : Bool) : Eo ⟨1, 1, b⟩ := ⟨sm1, .inr sm1⟩
theorem mostF_eo {f : Int → Int → Int} {a b : Int} (ha : a = -1 ∨ Sm a) (hb : b = -1 ∨ Sm b) (hf : ∀ a b, Sm a → Sm b → Sm (f a b)) : mostF f a b = -1 ∨ Sm (mostF f a b) := by
  unfold mostF
  split
  · exact .inl rfl
  · rename_i h
    exact .inr (hf a b (ha.resolve_left fun e => h (.inl e)) (hb.resolve_left fun e => h (.inr e)))
theorem thenF_eo {x y : Ex} (hx : Eo x) (hy : Eo y) : Eo (thenF x y) := by
  unfold thenF
  split
  · exact ⟨plusF_sm hx.l hy.l, mostF_eo hx.m hy.m fun a b => plusF_sm⟩
  · exact eo0 _
theorem orF_eo {x y : Ex} (hx : Eo x) (hy : Eo y) : Eo (orF x y) := by
  unfold orF
  split
  · split
    · refine ⟨?_, mostF_eo hx.m hy.m fun a b ha hb => ?_⟩
      · have h1 := hx.l; have h2 := hy.l; unfold Sm at *; show 0 ≤ min x.l y.l ∧ min x.l y.l ≤ _; omega
      · unfold Sm at *; omega
    · exact hx
  · exact hy
theorem repeatF_eo {x : Ex} {lo hi : Int} (hx : Eo x) (hlo : 0 ≤ lo) (hhi : -1 ≤ hi) : Eo (repeatF x lo hi) := by
  unfold repeatF
  split
  · refine ⟨timesF_sm hx.l hlo, ?_⟩
    show (if x.m = 0 ∨ hi = 0 then 0 else mostF timesF x.m hi) = -1 ∨ Sm (if x.m = 0 ∨ hi = 0 then 0 else mostF timesF x.m hi)
    split
    · exact .inr sm0
    · unfold mostF
      split
      · exact .inl rfl
      · rename_i h
        exact .inr (timesF_sm (hx.m.resolve_left fun e => h (.inl e)) (by omega))
  · exact eo0 _
theorem catX_eo : ∀ (l : List Tm) (x : Ex), (∀ k ∈ l, Eo (spanT k)) → Eo x → Eo (catX l x)
  | [], x, _, h => by rw [catX]; exact h
  | k :: r, x, hk, h => by rw [catX]; exact catX_eo r _ (fun y hy => hk y (by simp [hy])) (thenF_eo h (hk k (by simp)))
theorem altX_eo : ∀ (l : List Tm) (x : Ex), (∀ k ∈ l, Eo (spanT k)) → Eo x → Eo (altX l x)
  | [], x, _, h => by rw [altX]; exact h
  | k :: r, x, hk, h => by rw [altX]; exact altX_eo r _ (fun y hy => hk y (by simp [hy])) (orF_eo h (hk k (by simp)))
theorem spanT_eo (t : Tm) (h : Ok t) : Eo (spanT t) := by
  induction t using Tm.ind with
  | h op f lo hi ks ih =>
    have hk : ∀ k ∈ ks, Eo (spanT k) := fun k hk => ih k hk (h.kid hk)
    rw [spanT]
    split
    · exact eo0 _
    split
    · exact eo1 _
    split
    · split
      · exact eo0 _
      · exact eo1 _
    split
    · exact catX_eo ks _ hk (eo0 _)
    split
    · exact altX_eo ks _ hk (eo0 _)
    split
    · rename_i h8
      have hn := h.num h8
      match ks, hk with
      | [], _ => rw [repX]; exact eo0 _; intro k e; cases e
      | [k], hk => rw [repX]; exact repeatF_eo (hk k (by simp)) hn.1.1 hn.2.1
      | _ :: _ :: _, _ => rw [repX]; exact eo0 _; intro k e; cases e
    · exact eo0 _
end Go.Proofs.Ytnaecagmcpndhaa
namespace Go.Proofs.Ytnaecagmcpndhaa
open Go.RowKit
/-- the three cells of an extent's block written -/
def set3 (W : World) (k : Nat) (x : Ex) : World := ((W.setCell ⟨k, 0, none⟩ (.int .i64 x.l)).setCell ⟨k, 1, none⟩ (.int .i64 x.m)).setCell ⟨k, 2, none⟩ (.bool x.a)
theorem EB.set3 {W : World} {k : Nat} {x0 : Ex} (h : EB W k x0) (x : Ex) : EB (set3 W k x) k x := by
  unfold EB at h ⊢
  simp [Go.Proofs.Ytnaecagmcpndhaa.set3, World.setCell, Array.getElem?_modify, h]
theorem set3_below {w W : World} {k : Nat} (hb : Below w.heap.size w W) (hk : w.heap.size ≤ k) (x : Ex) : Below w.heap.size w (set3 W k x) := ((hb.setCell hk _).setCell hk _).setCell hk _
theorem res36 (W : World) (k : Nat) (x : Ex) (T : Array Value) (h : EB W k x) (hT : T[3]? = some (.pointer (some ⟨k, 0, none⟩))) : (results Try.f36 T).run Try.prog W = .ok x.val W := by
  obtain ⟨⟨x0, x1, x2⟩, _⟩ := h.all
  simp [results, Try.results36, go_sem, Ex.val, hT, x0, x1, x2]
theorem end36 {w W : World} {x0 x : Ex} (h : EB W (w.heap.size + 1) x0) (hb : Below w.heap.size w W) (T : Array Value) (hT : T[3]? = some (.pointer (some ⟨w.heap.size + 1, 0, none⟩))) :
    bodyPost Try.prog Try.f36 (Tells w x.val) .ret { tmps := T, defers := [] } (((W.setCell ⟨w.heap.size + 1, 0, none⟩ (.int .i64 x.l)).setCell ⟨w.heap.size + 1, 1, none⟩ (.int .i64 x.m)).setCell ⟨w.heap.size + 1, 2, none⟩ (.bool x.a)) :=
  bodyPost_ret (v := x.val) (res36 _ _ x _ (h.set3 x) hT) rfl ⟨rfl, set3_below hb (Nat.le_succ _) x⟩
set_option maxRecDepth 100000 in
set_option maxHeartbeats 4000000 in
theorem span_leaf (op : Int) (f : Nat → Bool) (lo hi : Int) (ks : List Tm) (d : TD) (p : Nat) (w : World) (ht : TR w (.mk op f lo hi ks) d) (hop : op = 1 ∨ op = 4 ∨ op = 5 ∨ op = 3 ∨ op = 2) : Calls Try.prog 36 #[d.val, .pointer (some ⟨p, 0, none⟩)] w (Tells w (spanT (.mk op f lo hi ks)).val) := by
  cases ht with
  | mk _ _ _ _ _ q A c ds hq hl hn hk hr =>
  obtain ⟨n, hnn⟩ : ∃ n, ks.length = n := ⟨_, rfl⟩
  rw [hnn] at hn ⊢
  have NO := Lib.hid nothing_any; have ON := Lib.hid one_any
  have T1 : Hid (TB ((w.alloc (.cells #[.int .i64 op, .int .u64 (uv (q 0)), .int .u64 (uv (q 1)), .int .u64 (uv (q 2)), .int .u64 (uv (q 3)), .int .i64 lo, .int .i64 hi, .slice A n c] 29)).alloc (.cells #[.int .i64 0, .int .i64 0, .bool false] 62)) w.heap.size ⟨op, q, lo, hi, A, n, c⟩) := (TB.new w ⟨op, q, lo, hi, A, n, c⟩).alloc _
  have B1 : Hid (Below w.heap.size w ((w.alloc (.cells #[.int .i64 op, .int .u64 (uv (q 0)), .int .u64 (uv (q 1)), .int .u64 (uv (q 2)), .int .u64 (uv (q 3)), .int .i64 lo, .int .i64 hi, .slice A n c] 29)).alloc (.cells #[.int .i64 0, .int .i64 0, .bool false] 62))) := below2 w _ _
  have X1 : Hid (EB ((w.alloc (.cells #[.int .i64 op, .int .u64 (uv (q 0)), .int .u64 (uv (q 1)), .int .u64 (uv (q 2)), .int .u64 (uv (q 3)), .int .i64 lo, .int .i64 hi, .slice A n c] 29)).alloc (.cells #[.int .i64 0, .int .i64 0, .bool false] 62)) (w.heap.size + 1) ⟨0, 0, false⟩) := by
    have h := EB.new (w.alloc (.cells #[.int .i64 op, .int .u64 (uv (q 0)), .int .u64 (uv (q 1)), .int .u64 (uv (q 2)), .int .u64 (uv (q 3)), .int .i64 lo, .int .i64 hi, .slice A n c] 29)) ⟨0, 0, false⟩
    rw [World.size_alloc] at h
    exact h
  unfold TD.val
  by_cases h1 : op = 1
  · subst h1
    have R : Hid (spanT (.mk 1 f lo hi ks) = ⟨0, 0, true⟩) := by show spanT _ = _; rw [spanT]; simp
    clear hk hr hop
    rw [R.out]
    go_enter Try.func36, Try.ntmps36
    go_wp2_with fail
    refine (NO.out _).mono ?_
    rintro e w5 ⟨rfl, hb5⟩
    have X5 := Lib.hid (X1.out.below hb5); have B5 := Lib.hid (B1.out.trans (hb5.mono B1.out.size))
    obtain ⟨⟨e0, e1, e2⟩, g0, g1, g2⟩ := X5.out.all
    clear NO ON T1 B1 X1 hb5
    unfold Ex.val
    go_wp2
    exact end36 X5.out B5.out _ rfl
  have q1 : (op == 1) = false := by rw [beq_eq_false_iff_ne]; exact h1
  by_cases h4 : op = 4
  · subst h4
    have R : Hid (spanT (.mk 4 f lo hi ks) = ⟨0, 0, true⟩) := by show spanT _ = _; rw [spanT]; simp
    clear hk hr hop
    rw [R.out]
    go_enter Try.func36, Try.ntmps36
    go_wp2_with fail
    refine (NO.out _).mono ?_
    rintro e w5 ⟨rfl, hb5⟩
    have X5 := Lib.hid (X1.out.below hb5); have B5 := Lib.hid (B1.out.trans (hb5.mono B1.out.size))
    obtain ⟨⟨e0, e1, e2⟩, g0, g1, g2⟩ := X5.out.all
    clear NO ON T1 B1 X1 hb5
    unfold Ex.val
    go_wp2
    exact end36 X5.out B5.out _ rfl
  have q4 : (op == 4) = false := by rw [beq_eq_false_iff_ne]; exact h4
  by_cases h5 : op = 5
  · subst h5
    have R : Hid (spanT (.mk 5 f lo hi ks) = ⟨0, 0, true⟩) := by show spanT _ = _; rw [spanT]; simp
    clear hk hr hop
    rw [R.out]
    go_enter Try.func36, Try.ntmps36
    go_wp2_with fail
    refine (NO.out _).mono ?_
    rintro e w5 ⟨rfl, hb5⟩
    have X5 := Lib.hid (X1.out.below hb5); have B5 := Lib.hid (B1.out.trans (hb5.mono B1.out.size))
    obtain ⟨⟨e0, e1, e2⟩, g0, g1, g2⟩ := X5.out.all
    clear NO ON T1 B1 X1 hb5
    unfold Ex.val
    go_wp2
    exact end36 X5.out B5.out _ rfl
  have q5 : (op == 5) = false := by rw [beq_eq_false_iff_ne]; exact h5
  by_cases h3 : op = 3
  · subst h3
    have R : Hid (spanT (.mk 3 f lo hi ks) = ⟨1, 1, true⟩) := by show spanT _ = _; rw [spanT]; simp
    clear hk hr hop
    rw [R.out]
    go_enter Try.func36, Try.ntmps36
    go_wp2_with fail
    refine (ON.out _).mono ?_
    rintro e w5 ⟨rfl, hb5⟩
    have X5 := Lib.hid (X1.out.below hb5); have B5 := Lib.hid (B1.out.trans (hb5.mono B1.out.size))
    obtain ⟨⟨e0, e1, e2⟩, g0, g1, g2⟩ := X5.out.all
    clear NO ON T1 B1 X1 hb5
    unfold Ex.val
    go_wp2
    exact end36 X5.out B5.out _ rfl
  have q3 : (op == 3) = false := by rw [beq_eq_false_iff_ne]; exact h3
  by_cases h2 : op = 2
  · subst h2
    have hE : ∀ W : World, (Op.equalIn 10000 26 (.agg #[.int .u64 (uv (q 0)), .int .u64 (uv (q 1)), .int .u64 (uv (q 2)), .int .u64 (uv (q 3))]) (.agg #[.int .u64 0, .int .u64 0, .int .u64 0, .int .u64 0])).run Try.prog W = .ok (eqK f noB) W := fun W => eqk_is hq isK_zero W
    cases hz : eqK f noB with
    | true =>
      have R : Hid (spanT (.mk 2 f lo hi ks) = ⟨0, 0, false⟩) := by show spanT _ = _; rw [spanT]; simp [hz]
      rw [hz] at hE
      obtain ⟨⟨e0, e1, e2⟩, g0, g1, g2⟩ := X1.out.all
      clear hk hr hop NO ON
      rw [R.out]
      go_enter Try.func36, Try.ntmps36
      go_wp2
      exact bodyPost_ret (v := Ex.val ⟨0, 0, false⟩) (res36 _ _ ⟨0, 0, false⟩ _ X1.out rfl) rfl ⟨rfl, B1.out⟩
    | false =>
      have R : Hid (spanT (.mk 2 f lo hi ks) = ⟨1, 1, true⟩) := by show spanT _ = _; rw [spanT]; simp [hz]
      rw [hz] at hE
      clear hk hr hop
      rw [R.out]
      go_enter Try.func36, Try.ntmps36
      go_wp2_with fail
      refine (ON.out _).mono ?_
      rintro e w5 ⟨rfl, hb5⟩
      have X5 := Lib.hid (X1.out.below hb5); have B5 := Lib.hid (B1.out.trans (hb5.mono B1.out.size))
      obtain ⟨⟨e0, e1, e2⟩, g0, g1, g2⟩ := X5.out.all
      clear NO ON T1 B1 X1 hb5
      unfold Ex.val
      go_wp2
      exact end36 X5.out B5.out _ rfl
  have q2 : (op == 2) = false := by rw [beq_eq_false_iff_ne]; exact h2
  exact absurd hop (by rintro (e | e | e | e | e); exact h1 e; exact h4 e; exact h5 e; exact h3 e; exact h2 e)
end Go.Proofs.Ytnaecagmcpndhaa
namespace Go.Proofs.Ytnaecagmcpndhaa
open Go.RowKit
/-- what a round of the loops keeps -/
structure KS (w W : World) (p rb kx : Nat) (D : TD) (x : Ex) (kt : Tm) (dt : TD) : Prop where
  t : TB W w.heap.size D
  z : EB W (w.heap.size + 1) ⟨0, 0, false⟩
  r : EB W rb x
  b : Below w.heap.size w W
  f : Fun W p 36
  k : TB W kx dt
  v : TR W kt dt
theorem step_ks {w W W' : World} {p rb kx : Nat} {D : TD} {x : Ex} {kt : Tm} {dt : TD} (h : Hid (KS w W p rb kx D x kt dt)) (hb : Below W.heap.size W W') : Hid (KS w W' p rb kx D x kt dt) :=
  ⟨h.out.t.below hb, h.out.z.below hb, h.out.r.below hb, h.out.b.trans (hb.mono h.out.b.size), h.out.f.below hb, h.out.k.below hb, h.out.v.keeps hb⟩
theorem ksk {w W : World} {p rb kx : Nat} {D : TD} {x : Ex} {kt : Tm} {dt : TD} (h : Hid (KS w W p rb kx D x kt dt)) : W.cell? ⟨rb, 0, none⟩ = some (.int .i64 x.l) ∧ W.cell? ⟨rb, 1, none⟩ = some (.int .i64 x.m) ∧ W.cell? ⟨rb, 2, none⟩ = some (.bool x.a) ∧ W.cell? ⟨p, 0, none⟩ = some (.func (.func 36) #[] #[.pointer (some ⟨p, 0, none⟩)]) ∧ W.cell? ⟨kx, 0, none⟩ = some (.int .i64 dt.op) ∧ W.cell? ⟨kx, 1, none⟩ = some (.int .u64 (uv (dt.q 0))) ∧ W.cell? ⟨kx, 2, none⟩ = some (.int .u64 (uv (dt.q 1))) ∧ W.cell? ⟨kx, 3, none⟩ = some (.int .u64 (uv (dt.q 2))) ∧ W.cell? ⟨kx, 4, none⟩ = some (.int .u64 (uv (dt.q 3))) ∧ W.cell? ⟨kx, 5, none⟩ = some (.int .i64 dt.lo) ∧ W.cell? ⟨kx, 6, none⟩ = some (.int .i64 dt.hi) ∧ W.cell? ⟨kx, 7, none⟩ = some (.slice dt.A dt.n dt.c) := by
  obtain ⟨⟨a0, a1, a2⟩, _⟩ := h.out.r.all
  obtain ⟨⟨b0, b1, b2, b3, b4, b5, b6, b7⟩, _⟩ := h.out.k.all
  exact ⟨a0, a1, a2, h.out.f.1, b0, b1, b2, b3, b4, b5, b6, b7⟩
theorem set3_heap (W : World) (k j : Nat) (x : Ex) (h : j ≠ k) : (set3 W k x).heap[j]? = W.heap[j]? := by
  unfold set3
  rw [Below.heap_setCell _ ⟨k, 2, none⟩ _ j h, Below.heap_setCell _ ⟨k, 1, none⟩ _ j h, Below.heap_setCell _ ⟨k, 0, none⟩ _ j h]
theorem set3_size (W : World) (k : Nat) (x : Ex) : (set3 W k x).heap.size = W.heap.size := by simp [set3, World.setCell]
theorem ks_end {w W : World} {p rb kx : Nat} {D : TD} {x : Ex} {kt : Tm} {dt : TD} (h : Hid (KS w W p rb kx D x kt dt)) (hrb : w.heap.size + 1 < rb) (hp : p < w.heap.size) (y : Ex) :
    TB (set3 W rb y) w.heap.size D ∧ EB (set3 W rb y) (w.heap.size + 1) ⟨0, 0, false⟩ ∧ EB (set3 W rb y) rb y ∧ Below w.heap.size w (set3 W rb y) ∧ Fun (set3 W rb y) p 36 :=
  ⟨(set3_heap W rb _ y (by omega)).trans h.out.t, (set3_heap W rb _ y (by omega)).trans h.out.z, h.out.r.set3 y, set3_below h.out.b (by omega) y, ⟨(World.cell?_of_block (a := ⟨p, 0, none⟩) (set3_heap W rb p y (by omega))).trans h.out.f.1, by rw [set3_size]; exact h.out.f.2⟩⟩
end Go.Proofs.Ytnaecagmcpndhaa
