/- A term that isn't great has few kids everywhere. What plain letters, and bytes told by their hexes, are read as. A byte told by its hexes, alone and in a class. Forms of bytes and sets, and how they are read: pure. A set's form is read as that set: pure. Numbers and quants, and how they are read: pure. Forms of terms: pure. -/
import Derived.Test.YtkljagffccommaaU1
namespace Go.Proofs.Ytkljagffccommaa
open Go.RowKit
/-- every row of kids is short -/
inductive Few : Tm → Prop
  | mk (op : Int) (f : Nat → Bool) (lo hi : Int) (ks : List Tm) (hn : ks.length ≤ 500) (hk : ∀ k ∈ ks, Few k) : Few (.mk op f lo hi ks)
set_option maxRecDepth 100000 in
set_option maxHeartbeats 2000000 in
theorem size_few : ∀ (t : Tm) (d : TD) (dp : Nat) (w : World), TR w t d → dp ≤ 61 → Calls Try.prog 31 #[d.val, .int .i64 (dp : Nat)] w (fun e w' => ∃ n : Nat, e = .returned (.int .i64 (n : Nat)) ∧ n ≤ 1000000 + 500 * (61 - dp) ∧ 1 ≤ n ∧ (n ≤ 500 → Few t) ∧ Below w.heap.size w w') := by
  intro t
  induction t using Tm.ind with
  | h op f lo hi ks ih =>
  intro d dp w ht hdp
  cases ht with
  | mk _ _ _ _ _ q A c ds hq hl hn hk hr =>
  have T1 : Hid (TB (w.alloc (.cells #[.int .i64 op, .int .u64 (uv (q 0)), .int .u64 (uv (q 1)), .int .u64 (uv (q 2)), .int .u64 (uv (q 3)), .int .i64 lo, .int .i64 hi, .slice A ks.length c] 29)) w.heap.size ⟨op, q, lo, hi, A, ks.length, c⟩) := TB.new w ⟨op, q, lo, hi, A, ks.length, c⟩
  have B1 : Hid (Below w.heap.size w (w.alloc (.cells #[.int .i64 op, .int .u64 (uv (q 0)), .int .u64 (uv (q 1)), .int .u64 (uv (q 2)), .int .u64 (uv (q 3)), .int .i64 lo, .int .i64 hi, .slice A ks.length c] 29))) := below_new w _
  obtain ⟨⟨x0, x1, x2, x3, x4, x5, x6, x7⟩, _⟩ := T1.out.all
  unfold TD.val
  by_cases h60 : 60 < dp
  · have q1 : (60 : Int) < (dp : Int) := by omega
    clear ih hk hr
    go_enter Try.func31, Try.ntmps31
    go_wp2
    go_ret
    exact ⟨1000000, rfl, by omega, by omega, fun h => by omega, B1.out⟩
  have q1 : ¬ (60 : Int) < (dp : Int) := by omega
  have IH := Lib.hid ih; have HK := Lib.hid hk; have HR := Lib.hid hr; have HL := Lib.hid hl
  obtain ⟨n, hnn⟩ : ∃ n, ks.length = n := ⟨_, rfl⟩
  rw [hnn] at T1 B1 x0 x1 x2 x3 x4 x5 x6 x7 hn
  have HN := Lib.hid hnn
  simp only [hnn]
  clear ih hk hr hl hnn
  go_enter Try.func31, Try.ntmps31
  go_wp2_with fail
  go_loopw [5, 6] (fun u v wr => ∃ m i : Nat, i ≤ n ∧ m ≤ 1000000 + 500 * (61 - dp) ∧ u = .int .i64 (m : Nat) ∧ v = .int .i64 (i : Nat) ∧ Hid (i + 1 ≤ m ∧ (m ≤ 500 → ∀ (j : Nat) (k : Tm), j < i → ks[j]? = some k → Few k)) ∧ Hid (TB wr w.heap.size ⟨op, q, lo, hi, A, n, c⟩ ∧ Below w.heap.size w wr)) (fun _ v _ => n - (intOf v).toNat)
  case atStart => exact ⟨1, 0, Nat.zero_le _, by omega, rfl, rfl, Lib.hid ⟨by omega, fun _ j k hj => by omega⟩, ⟨T1.out, B1.out⟩⟩
  case round =>
    obtain ⟨m, i, hi1, hm, rfl, rfl, hF, hW⟩ := hrel
    obtain ⟨⟨x0, x1, x2, x3, x4, x5, x6, x7⟩, _⟩ := hW.out.1.all
    clear T1 B1
    by_cases hlt : i < n
    · have qi : (i : Int) < (n : Int) := by omega
      by_cases hm5 : m ≤ 500
      · have qm : (m : Int) ≤ 500 := by omega
        have hi2 : i < ks.length := by have := HN.out; omega
        have hi4 : i < ds.length := by have h1 := HL.out; omega
        obtain ⟨kb1, off1, rfl, hb1, hc1⟩ := HR.out (by omega)
        obtain ⟨a0, a1, a2, a3, a4, a5, a6, a7⟩ := kid_cells hW.out.2 hb1 hc1 (List.getElem?_eq_getElem hi4)
        have k1 := (HK.out i _ _ (List.getElem?_eq_getElem hi2) (List.getElem?_eq_getElem hi4)).keeps hW.out.2
        have D1 := Lib.hid (IH.out _ (List.getElem_mem hi2) _ (dp + 1) wr k1 (by omega))
        have q7 : ((dp + 1 : Nat) : Int) = (dp : Int) + 1 := by omega
        rw [q7] at D1
        have tk : Hid (∀ k, ks[i]? = some k → k = ks[i]) := Lib.hid (fun k hk => by rw [List.getElem?_eq_getElem hi2] at hk; cases hk; rfl)
        generalize ds[i] = dt at *
        generalize ks[i] = kt at *
        have q5 : IntKind.i64.wrap ((dp : Int) + 1) = (dp : Int) + 1 := by rw [IntWalk.i64_in _ (by omega)]
        have HM : Hid (m ≤ 500) := hm5
        clear hc1 k1 hi2 hi4 hb1 q7 hm hm5
        unfold TD.val at D1
        go_wp2_with fail
        refine D1.out.mono ?_
        rintro e w5 ⟨n5, rfl, hn5, hn6, hf5, hb5⟩
        have W5 : Hid (TB w5 w.heap.size ⟨op, q, lo, hi, some ⟨kb1, off1, none⟩, n, c⟩ ∧ Below w.heap.size w w5) := ⟨hW.out.1.below hb5, hW.out.2.trans (hb5.mono hW.out.2.size)⟩
        have hsum : m + n5 ≤ 1000000 + 500 * (61 - dp) := by have := HM.out; omega
        have F5 : Hid (i + 1 + 1 ≤ m + n5 ∧ (m + n5 ≤ 500 → ∀ (j : Nat) (k : Tm), j < i + 1 → ks[j]? = some k → Few k)) := Lib.hid ⟨by have := hF.out.1; omega, fun hle j k hj hk => by
          rcases Nat.lt_or_ge j i with h | h
          · exact hF.out.2 (by omega) j k h hk
          · have e : j = i := by omega
            subst e
            rw [tk.out k hk]
            exact hf5 (by omega)⟩
        clear hf5 hF tk
        have q6 : IntKind.i64.wrap ((i : Int) + 1) = ((i + 1 : Nat) : Int) := by rw [IntWalk.i64_in _ (by omega)]; omega
        have q8 : IntKind.i64.wrap ((m : Int) + (n5 : Int)) = ((m + n5 : Nat) : Int) := by rw [IntWalk.i64_in _ (by omega)]; omega
        clear D1 hW hb5 a0 a1 a2 a3 a4 a5 a6 a7 x0 x1 x2 x3 x4 x5 x6 x7
        go_wp2_with fail
        go_roundw
        case rel => exact ⟨m + n5, i + 1, by omega, hsum, by simp, by simp, F5, W5⟩
        case measure => simp [intOf]; omega
      · have qm : ¬ (m : Int) ≤ 500 := by omega
        go_wp2
        go_ret
        exact ⟨m, rfl, hm, by have := hF.out.1; omega, fun h => by omega, hW.out.2⟩
    · have qi : ¬ (i : Int) < (n : Int) := by omega
      go_wp2
      go_ret
      exact ⟨m, rfl, hm, by have := hF.out.1; omega, fun h => .mk _ _ _ _ _ (by have h1 := hF.out.1; have h2 := HN.out; omega) (fun k hk => by
        obtain ⟨j, hj⟩ := List.getElem?_of_mem hk
        obtain ⟨hj2, _⟩ := List.getElem?_eq_some_iff.mp hj
        exact hF.out.2 h j k (by have := HN.out; omega) hj), hW.out.2⟩
/-- whether a term is great is told -/
theorem great_few (t : Tm) (d : TD) (w : World) (ht : TR w t d) : Calls Try.prog 16 #[d.val] w (fun e w' => ∃ b : Bool, e = .returned (.bool b) ∧ (b = false → Few t) ∧ Below w.heap.size w w') := by
  have nb := below_new w (.cells d.cells 29)
  have D1 := Lib.hid (size_few t d 0 _ (ht.keeps nb) (by omega))
  have B1 := Lib.hid nb
  obtain ⟨⟨x0, x1, x2, x3, x4, x5, x6, x7⟩, _⟩ := (TB.new w d).all
  clear nb
  unfold TD.val TD.cells at *
  go_enter Try.func16, Try.ntmps16
  go_wp2_with fail
  refine D1.out.mono ?_
  rintro e w2 ⟨n, rfl, _, _, hf2, hb2⟩
  have F2 := Lib.hid hf2
  have B2 := Lib.hid (B1.out.trans (hb2.mono B1.out.size))
  clear D1 B1 hb2 hf2 x0 x1 x2 x3 x4 x5 x6 x7
  go_wp2
  go_ret
  exact ⟨_, rfl, fun h => F2.out (by simp at h; omega), B2.out⟩
end Go.Proofs.Ytkljagffccommaa
namespace Go.Proofs.Ytkljagffccommaa
open Go.RowKit

theorem sbF {bs : List Nat} {i b : Nat} (h : ¬ (i < bs.length ∧ bn bs i = b)) : sb bs i b = false := decide_eq_false h
theorem sbT {bs : List Nat} {i b : Nat} (h1 : i < bs.length) (h2 : bn bs i = b) : sb bs i b = true := decide_eq_true ⟨h1, h2⟩
theorem thn_ok {α β : Type} (a : α) (s : St) (f : α → St → Except Nat (β × St)) : thn (.ok (a, s)) f = f a s := rfl
def one (x : Nat) : Tm := setT (rgF x x)
theorem rep_low (rec : St → Except Nat (Tm × St)) (bs : List Nat) (s : St) (hi : s.i < bs.length) (hl : ∀ i, i < bs.length → 97 ≤ bn bs i ∧ bn bs i ≤ 122) : repF rec bs s = .ok (one (bn bs s.i), s.nx) := by
  have e : ∀ b, (b < 97 ∨ 122 < b) → sb bs s.i b = false := fun b hb => sbF (by have := hl s.i hi; omega)
  have e2 : ∀ b, (b < 97 ∨ 122 < b) → sb bs s.nx.i b = false := fun b hb => sbF (by
    rintro ⟨h1, h2⟩
    have := hl s.nx.i h1
    omega)
  have t : takeButF bs s [124, 40, 41, 93, 123, 125, 42, 43, 63] = .ok (bn bs s.i, s.nx) := by
    unfold takeButF
    rw [if_pos ⟨hi, by have := hl s.i hi; simp; omega⟩]
  unfold repF atomF
  rw [e 40 (by omega), e 91 (by omega), e 92 (by omega), e 46 (by omega), e 94 (by omega), e 36 (by omega)]
  simp only [Bool.false_eq_true, if_false]
  rw [t, thn_ok, thn_ok]
  unfold quantF
  rw [e2 42 (by omega), e2 43 (by omega), e2 63 (by omega), e2 123 (by omega)]
  rfl
theorem catL_low (rec : St → Except Nat (Tm × St)) (bs : List Nat) (hl : ∀ i, i < bs.length → 97 ≤ bn bs i ∧ bn bs i ≤ 122) : ∀ k n ts s, s.i + k = bs.length → k < n → catL rec bs n ts s = .ok (ts ++ (List.range' s.i k).map (fun i => one (bn bs i)), { s with i := bs.length })
  | 0, n + 1, ts, s, h, _ => by
    rw [catL, if_pos (.inl (by omega))]
    have : ({ s with i := bs.length } : St) = s := by cases s; simp at h ⊢; omega
    rw [this]
    simp
  | k + 1, n + 1, ts, s, h, hn => by
    have hi : s.i < bs.length := by omega
    rw [catL, if_neg, rep_low rec bs s hi hl, thn_ok, catL_low rec bs hl k n _ s.nx (by show s.i + 1 + k = _; omega) (by omega)]
    · show Except.ok _ = Except.ok _
      rw [List.range'_succ, List.map_cons, List.append_assoc]
      rfl
    · have := hl s.i hi
      rintro (e | e | e)
      · omega
      · rw [sbF (by omega)] at e; cases e
      · rw [sbF (by omega)] at e; cases e
def rowT (bs : List Nat) : List Tm := (List.range' 0 bs.length).map (fun i => one (bn bs i))
theorem rowT_len (bs : List Nat) : (rowT bs).length = bs.length := by simp [rowT]
theorem rowT_at (bs : List Nat) (i : Nat) (hi : i < bs.length) : (rowT bs)[i]? = some (one (bn bs i)) := by
  simp [rowT, List.getElem?_map, List.getElem?_range', hi]
theorem catT_two : ∀ ts : List Tm, 2 ≤ ts.length → catT ts = .mk 6 noB 0 0 ts
  | [], h => by simp at h
  | [_], h => by simp at h
  | _ :: _ :: _, _ => rfl
theorem parse_low (bs : List Nat) (h1 : 2 ≤ bs.length) (h2 : bs.length ≤ 200) (hl : ∀ i, i < bs.length → 97 ≤ bn bs i ∧ bn bs i ≤ 122) : parseF bs = (.mk 6 noB 0 0 (rowT bs), 0, 0) := by
  have hc : catF (altF bs bs.length) bs s0 = .ok (.mk 6 noB 0 0 (rowT bs), ⟨bs.length, 0, -1, -1⟩) := by
    unfold catF
    rw [catL_low _ bs hl bs.length (bs.length + 1) [] s0 (by simp [s0]) (by omega), thn_ok]
    show Except.ok (catT (rowT bs), _) = _
    rw [catT_two _ (by rw [rowT_len]; exact h1)]
    rfl
  have ha : altF bs (bs.length + 1) s0 = .ok (.mk 6 noB 0 0 (rowT bs), ⟨bs.length, 0, -1, -1⟩) := by
    show altG (altF bs bs.length) bs s0 = _
    unfold altG
    rw [hc, thn_ok, altL, if_neg (by rw [sbF (by simp)]; simp), thn_ok]
    rfl
  unfold parseF
  rw [if_neg (by omega), ha]
  simp

/-- the class of one byte, word by word -/
def oneq (y : Nat) : Nat → BitVec 64 := fun j => if j = y / 64 then BitVec.twoPow 64 (y % 64) else 0#64
theorem oneq_is (y : Nat) (_ : y < 256) : IsK (rgF y y) (oneq y) := fun i hi => by
  unfold kb oneq rgF
  rw [Bool.eq_iff_iff]
  by_cases h : i / 64 = y / 64
  · rw [if_pos h, BitVec.getLsbD_twoPow]
    simp
    omega
  · rw [if_neg h]
    simp
    omega
theorem uv_pow (k : Nat) (hk : k < 64) : IntKind.u64.wrap ((2 : Int) ^ k) = uv (BitVec.twoPow 64 k) := by
  unfold uv
  rw [BitVec.toNat_twoPow, Nat.mod_eq_of_lt (Nat.pow_lt_pow_right (by omega) hk)]
  have h : (2 : Nat) ^ k < 2 ^ 64 := Nat.pow_lt_pow_right (by omega) hk
  have hw : ∀ n : Int, IntKind.u64.wrap n = n % 18446744073709551616 := fun n => by simp [IntKind.wrap, IntKind.bits, IntKind.signed]
  rw [hw]
  have e : ((2 : Int) ^ k) = (((2 : Nat) ^ k : Nat) : Int) := by simp
  rw [e]
  generalize (2 : Nat) ^ k = m at *
  have h64 : (2 : Nat) ^ 64 = 18446744073709551616 := by decide
  rw [h64] at h
  omega
theorem sameT_refl : ∀ t : Tm, sameT t t = true := fun t => by
  induction t using Tm.ind with
  | h op f lo hi ks ih =>
    have hL : ∀ l : List Tm, (∀ k ∈ l, sameT k k = true) → sameL l l = true := fun l => by
      induction l with
      | nil => intro _; simp [sameL]
      | cons a r hr => intro h; rw [sameL, h a (by simp), hr (fun k hk => h k (by simp [hk]))]; rfl
    have e : eqK f f = true := (eqK_iff f f).2 fun _ _ => rfl
    simp [sameT, e, hL ks ih]
/-- a byte told by its hexes stands there -/
structure Hex (bs : List Nat) (i x y : Nat) : Prop where
  lt : i + 3 < bs.length
  b0 : bn bs i = 92
  b1 : bn bs (i + 1) = 120
  b2 : hexv (bn bs (i + 2)) = some x
  b3 : hexv (bn bs (i + 3)) = some y
section
variable {bs : List Nat} {s : St} {x y : Nat}
theorem Hex.letter (h : Hex bs s.i x y) : letterF bs s = (none, s) := by
  have := h.lt
  unfold letterF
  rw [if_pos ⟨sbT (by omega) h.b0, by omega⟩, h.b1]
  rfl
theorem Hex.escaped (h : Hex bs s.i x y) : escapedF bs s = .ok (16 * x + y, { s with i := s.i + 4 }) := by
  have hlt := h.lt
  unfold escapedF mustF
  rw [if_pos (sbT (by omega) h.b0), thn_ok]
  unfold escRest
  have e : ∀ b, b ≠ 120 → sb bs s.nx.i b = false := fun b hb => sbF (by rintro ⟨_, h2⟩; rw [show bn bs s.nx.i = 120 from h.b1] at h2; exact hb h2.symm)
  rw [e 110 (by omega), e 116 (by omega), e 114 (by omega), sbT (bs := bs) (i := s.nx.i) (b := 120) (by show s.i + 1 < _; omega) h.b1]
  simp only [Bool.false_eq_true, if_false, if_true]
  have e2 : hexF bs s.nx.nx = .ok (x, s.nx.nx.nx) := by
    unfold hexF
    rw [if_pos (by show s.i + 1 + 1 < _; omega), show bn bs s.nx.nx.i = bn bs (s.i + 2) from rfl, h.b2]
  have e3 : hexF bs s.nx.nx.nx = .ok (y, s.nx.nx.nx.nx) := by
    unfold hexF
    rw [if_pos (by show s.i + 1 + 1 + 1 < _; omega), show bn bs s.nx.nx.nx.i = bn bs (s.i + 3) from rfl, h.b3]
  rw [e2, thn_ok, e3, thn_ok]
  rfl
theorem Hex.atEnd (h : Hex bs s.i x y) : endF bs s = .ok (16 * x + y, { s with i := s.i + 4 }) := by
  unfold endF
  rw [if_pos (sbT (by have := h.lt; omega) h.b0)]
  exact h.escaped
theorem Hex.esc (h : Hex bs s.i x y) : escapeF bs s = .ok (rgF (16 * x + y) (16 * x + y), { s with i := s.i + 4 }) := by
  unfold escapeF
  rw [h.letter]
  show thn (escapedF bs s) _ = _
  rw [h.escaped]
  rfl
end
end Go.Proofs.Ytkljagffccommaa
namespace Go.Proofs.Ytkljagffccommaa
open Go.RowKit

theorem quant_none (bs : List Nat) (s : St) (h : ∀ b, b = 42 ∨ b = 43 ∨ b = 63 ∨ b = 123 → sb bs s.i b = false) : quantF bs s = .ok ((0, 0, false), s) := by
  unfold quantF
  rw [h 42 (by omega), h 43 (by omega), h 63 (by omega), h 123 (by omega)]
  rfl
/-- a text of one atom is that atom -/
theorem parse_one (bs : List Nat) (f : Nat → Bool) (h0 : 0 < bs.length) (h2 : bs.length ≤ 200) (hb : bn bs 0 = 91 ∨ bn bs 0 = 92)
    (ha : ∀ rec, atomF rec bs s0 = .ok (setT f, ⟨bs.length, 0, -1, -1⟩)) : parseF bs = (setT f, 0, 0) := by
  have he : ∀ b, sb bs bs.length b = false := fun b => sbF (by omega)
  have hr : ∀ rec, repF rec bs s0 = .ok (setT f, ⟨bs.length, 0, -1, -1⟩) := fun rec => by
    unfold repF
    rw [ha rec, thn_ok, quant_none bs _ (fun b _ => he b), thn_ok]
    rfl
  have hc : ∀ rec, catF rec bs s0 = .ok (setT f, ⟨bs.length, 0, -1, -1⟩) := fun rec => by
    unfold catF
    obtain ⟨n, hn⟩ : ∃ n, bs.length = n + 1 := ⟨bs.length - 1, by omega⟩
    have e1 : catL rec bs (bs.length + 1) [] s0 = .ok ([setT f], ⟨bs.length, 0, -1, -1⟩) := by
      rw [catL, if_neg, hr rec, thn_ok, hn, catL, if_pos (.inl (by show n + 1 = bs.length; omega)), ← hn]
      · rfl
      · rintro (e | e | e)
        · have : s0.i = 0 := rfl
          omega
        · rw [sbF (by rintro ⟨_, h⟩; have : s0.i = 0 := rfl; rw [this] at h; omega)] at e; cases e
        · rw [sbF (by rintro ⟨_, h⟩; have : s0.i = 0 := rfl; rw [this] at h; omega)] at e; cases e
    rw [e1, thn_ok]
    rfl
  have hA : altF bs (bs.length + 1) s0 = .ok (setT f, ⟨bs.length, 0, -1, -1⟩) := by
    show altG (altF bs bs.length) bs s0 = _
    unfold altG
    rw [hc, thn_ok, altL, if_neg (by rw [he]; simp), thn_ok]
    rfl
  unfold parseF
  rw [if_neg (by omega), hA]
  simp
section
variable {x y h l : Nat}
theorem atom_esc (rec : St → Except Nat (Tm × St)) (bs : List Nat) (f : Nat → Bool) (s' : St) (h0 : 0 < bs.length) (hb : bn bs 0 = 92) (he : escapeF bs s0 = .ok (f, s')) : atomF rec bs s0 = .ok (setT f, s') := by
  unfold atomF
  have e : ∀ b, b ≠ 92 → sb bs s0.i b = false := fun b hb' => sbF (by rintro ⟨_, h2⟩; rw [show bn bs s0.i = 92 from hb] at h2; exact hb' h2.symm)
  rw [e 40 (by omega), e 91 (by omega), sbT (bs := bs) (i := s0.i) (b := 92) h0 hb]
  simp only [Bool.false_eq_true, if_false, if_true]
  rw [he, thn_ok]
theorem atom_cls (rec : St → Except Nat (Tm × St)) (bs : List Nat) (f : Nat → Bool) (s' : St) (h0 : 0 < bs.length) (hb : bn bs 0 = 91) (he : classF bs s0 = .ok (f, s')) : atomF rec bs s0 = .ok (setT f, s') := by
  unfold atomF
  have e : ∀ b, b ≠ 91 → sb bs s0.i b = false := fun b hb' => sbF (by rintro ⟨_, h2⟩; rw [show bn bs s0.i = 91 from hb] at h2; exact hb' h2.symm)
  rw [e 40 (by omega), sbT (bs := bs) (i := s0.i) (b := 91) h0 hb]
  simp only [Bool.false_eq_true, if_false, if_true]
  rw [he, thn_ok]
theorem pb1 (hh : hexv h = some x) (hl : hexv l = some y) : parseF [92, 120, h, l] = (one (16 * x + y), 0, 0) := by
  have H : Hex [92, 120, h, l] s0.i x y := ⟨by simp [s0, St.nx], rfl, rfl, hh, hl⟩
  exact parse_one _ _ (by simp [s0, St.nx]) (by simp) (.inr rfl) fun rec => atom_esc rec _ _ _ (by simp [s0, St.nx]) rfl H.esc
/-- an item that is one byte -/
theorem item_one {bs : List Nat} {s : St} (H : Hex bs s.i x y) (hn : sb bs (s.i + 4) 45 = false) : itemF bs s = .ok (rgF (16 * x + y) (16 * x + y), { s with i := s.i + 4 }) := by
  unfold itemF
  rw [H.letter]
  show thn (endF bs s) _ = _
  rw [H.atEnd, thn_ok]
  show (if sb bs (s.i + 4) 45 = true then _ else _) = _
  rw [hn]
  rfl
theorem pb2 (hh : hexv h = some x) (hl : hexv l = some y) : parseF [91, 92, 120, h, l, 93] = (one (16 * x + y), 0, 0) := by
  refine parse_one _ _ (by simp [s0, St.nx]) (by simp) (.inl rfl) fun rec => atom_cls rec _ _ _ (by simp [s0, St.nx]) rfl ?_
  have H : Hex [91, 92, 120, h, l, 93] (s0.nx).i x y := ⟨by simp [s0, St.nx], rfl, rfl, hh, hl⟩
  have hi := item_one (s := s0.nx) H rfl
  unfold classF mustF
  rw [show sb [91, 92, 120, h, l, 93] s0.i 91 = true from rfl, if_pos rfl, thn_ok, show nx? (sb [91, 92, 120, h, l, 93] s0.nx.i 94) s0.nx = s0.nx from rfl, hi, thn_ok, clsL]
  rfl
theorem pb3 (hh : hexv h = some x) (hl : hexv l = some y) : parseF [91, 92, 120, h, l, 45, 92, 120, h, l, 93] = (one (16 * x + y), 0, 0) := by
  refine parse_one _ _ (by simp [s0, St.nx]) (by simp) (.inl rfl) fun rec => atom_cls rec _ _ _ (by simp [s0, St.nx]) rfl ?_
  have H : Hex [91, 92, 120, h, l, 45, 92, 120, h, l, 93] (s0.nx).i x y := ⟨by simp [s0, St.nx], rfl, rfl, hh, hl⟩
  have H2 : Hex [91, 92, 120, h, l, 45, 92, 120, h, l, 93] ({ s0 with i := 6 } : St).i x y := ⟨by simp, rfl, rfl, hh, hl⟩
  have hi : itemF [91, 92, 120, h, l, 45, 92, 120, h, l, 93] s0.nx = .ok (rgF (16 * x + y) (16 * x + y), { s0 with i := 10 }) := by
    unfold itemF
    rw [H.letter]
    show thn (endF _ s0.nx) _ = _
    rw [H.atEnd, thn_ok]
    show thn (endF [91, 92, 120, h, l, 45, 92, 120, h, l, 93] { s0 with i := 6 }) _ = _
    rw [H2.atEnd, thn_ok]
  unfold classF mustF
  rw [show sb [91, 92, 120, h, l, 45, 92, 120, h, l, 93] s0.i 91 = true from rfl, if_pos rfl, thn_ok, show nx? (sb [91, 92, 120, h, l, 45, 92, 120, h, l, 93] s0.nx.i 94) s0.nx = s0.nx from rfl, hi, thn_ok, clsL]
  rfl
theorem pb4 (hh : hexv h = some x) (hl : hexv l = some y) : parseF [91, 94, 92, 120, h, l, 93] = (setT (fun i => !rgF (16 * x + y) (16 * x + y) i), 0, 0) := by
  refine parse_one _ _ (by simp [s0, St.nx]) (by simp) (.inl rfl) fun rec => atom_cls rec _ _ _ (by simp [s0, St.nx]) rfl ?_
  have H : Hex [91, 94, 92, 120, h, l, 93] (s0.nx.nx).i x y := ⟨by simp [s0, St.nx], rfl, rfl, hh, hl⟩
  have hi := item_one (s := s0.nx.nx) H rfl
  unfold classF mustF
  rw [show sb [91, 94, 92, 120, h, l, 93] s0.i 91 = true from rfl, if_pos rfl, thn_ok, show nx? (sb [91, 94, 92, 120, h, l, 93] s0.nx.i 94) s0.nx = s0.nx.nx from rfl, hi, thn_ok, clsL]
  rfl
end
end Go.Proofs.Ytkljagffccommaa
namespace Go.Proofs.Ytkljagffccommaa
open Go.RowKit
def isAl (b : Nat) : Bool := decide ((48 ≤ b ∧ b ≤ 57) ∨ (97 ≤ b ∧ b ≤ 122) ∨ (65 ≤ b ∧ b ≤ 90))
def hexd (n : Nat) : Nat := if n < 10 then 48 + n else 87 + n
def byteF (b : Nat) : List Nat := if isAl b = true then [b] else [92, 120, hexd (b / 16), hexd (b % 16)]
theorem hexv_hexd (n : Nat) (h : n < 16) : hexv (hexd n) = some n := by
  unfold hexv hexd isD
  by_cases h10 : n < 10
  · rw [if_pos h10, if_pos (by simp; omega)]; congr 1; omega
  · rw [if_neg h10, if_neg (by simp; omega), if_pos (by omega)]; congr 1; omega
/-- a text lies there -/
structure Lay (bs : List Nat) (i : Nat) (l : List Nat) : Prop where
  le : i + l.length ≤ bs.length
  at_ : ∀ j, j < l.length → bn bs (i + j) = bn l j
theorem bn_app_l (a b : List Nat) (j : Nat) (h : j < a.length) : bn (a ++ b) j = bn a j := by
  unfold bn; rw [List.getD, List.getD, List.getElem?_append_left h]
theorem bn_app_r (a b : List Nat) (j : Nat) : bn (a ++ b) (a.length + j) = bn b j := by
  unfold bn; rw [List.getD, List.getD, List.getElem?_append_right (by omega), Nat.add_sub_cancel_left]
theorem Lay.app {bs : List Nat} {i : Nat} {a b : List Nat} (h : Lay bs i (a ++ b)) : Lay bs i a ∧ Lay bs (i + a.length) b := by
  have hl := h.le
  rw [List.length_append] at hl
  refine ⟨⟨by omega, fun j hj => ?_⟩, ⟨by omega, fun j hj => ?_⟩⟩
  · rw [h.at_ j (by rw [List.length_append]; omega), bn_app_l _ _ _ hj]
  · rw [Nat.add_assoc, h.at_ _ (by rw [List.length_append]; omega), bn_app_r]
theorem Lay.cons {bs : List Nat} {i x : Nat} {l : List Nat} (h : Lay bs i (x :: l)) : i < bs.length ∧ bn bs i = x ∧ Lay bs (i + 1) l := by
  have hl := h.le
  rw [List.length_cons] at hl
  refine ⟨by omega, ?_, ⟨by omega, fun j hj => ?_⟩⟩
  · have := h.at_ 0 (by simp); simpa [bn] using this
  · have := h.at_ (j + 1) (by simp; omega)
    rw [show i + 1 + j = i + (j + 1) by omega, this]
    simp [bn, List.getD]
def St.to (s : St) (j : Nat) : St := { s with i := j }
section
variable {bs : List Nat} {s : St} {a b : Nat}
theorem byte_cons (b : Nat) : ∃ c r, byteF b = c :: r ∧ ((isAl b = true ∧ c = b ∧ r = []) ∨ (isAl b = false ∧ c = 92 ∧ r = [120, hexd (b / 16), hexd (b % 16)])) := by
  unfold byteF
  cases h : isAl b with
  | true => exact ⟨b, [], rfl, .inl ⟨rfl, rfl, rfl⟩⟩
  | false => exact ⟨92, _, rfl, .inr ⟨rfl, rfl, rfl⟩⟩
theorem isAl_iff (b : Nat) : isAl b = true ↔ ((48 ≤ b ∧ b ≤ 57) ∨ (97 ≤ b ∧ b ≤ 122) ∨ (65 ≤ b ∧ b ≤ 90)) := by unfold isAl; exact decide_eq_true_iff
theorem byte_al (h : Lay bs s.i (byteF b)) (ha : isAl b = true) : s.i < bs.length ∧ bn bs s.i = b ∧ (byteF b).length = 1 := by
  have e : byteF b = [b] := by unfold byteF; rw [if_pos ha]
  rw [e] at h ⊢
  exact ⟨h.cons.1, h.cons.2.1, rfl⟩
theorem byte_hex (h : Lay bs s.i (byteF b)) (hb : b < 256) (ha : isAl b = false) : Hex bs s.i (b / 16) (b % 16) ∧ (byteF b).length = 4 := by
  have e : byteF b = [92, 120, hexd (b / 16), hexd (b % 16)] := by unfold byteF; rw [if_neg (by rw [ha]; simp)]
  rw [e] at h ⊢
  have h1 := h.cons
  have h2 := h1.2.2.cons
  have h3 := h2.2.2.cons
  have h4 := h3.2.2.cons
  refine ⟨⟨by omega, h1.2.1, h2.2.1, ?_, ?_⟩, rfl⟩
  · rw [show s.i + 2 = s.i + 1 + 1 by omega, h3.2.1]; exact hexv_hexd _ (by omega)
  · rw [show s.i + 3 = s.i + 1 + 1 + 1 by omega, h4.2.1]; exact hexv_hexd _ (by omega)
theorem end_byte (h : Lay bs s.i (byteF b)) (hb : b < 256) : endF bs s = .ok (b, s.to (s.i + (byteF b).length)) := by
  cases ha : isAl b with
  | true =>
    obtain ⟨h1, h2, h3⟩ := byte_al h ha
    have hr := (isAl_iff b).1 ha
    unfold endF takeButF
    rw [sbF (by omega), h3, if_neg (by simp), if_pos ⟨h1, by rw [h2]; simp; omega⟩, h2]
    rfl
  | false =>
    obtain ⟨H, h3⟩ := byte_hex h hb ha
    rw [H.atEnd, h3, show 16 * (b / 16) + b % 16 = b by omega]
    rfl
theorem letter_byte (h : Lay bs s.i (byteF b)) (hb : b < 256) : letterF bs s = (none, s) := by
  cases ha : isAl b with
  | true =>
    obtain ⟨h1, h2, h3⟩ := byte_al h ha
    have hr := (isAl_iff b).1 ha
    unfold letterF
    rw [if_neg (by rw [sbF (by omega)]; simp)]
  | false => exact (byte_hex h hb ha).1.letter
theorem item_single (h : Lay bs s.i (byteF a)) (ha : a < 256) (hn : sb bs (s.i + (byteF a).length) 45 = false) : itemF bs s = .ok (rgF a a, s.to (s.i + (byteF a).length)) := by
  unfold itemF
  rw [letter_byte h ha]
  show thn (endF bs s) _ = _
  rw [end_byte h ha, thn_ok]
  show (if sb bs (s.i + (byteF a).length) 45 = true then _ else _) = _
  rw [hn]; rfl
theorem item_range (h : Lay bs s.i (byteF a ++ 45 :: byteF b)) (ha : a < 256) (hb : b < 256) : itemF bs s = .ok (rgF a b, s.to (s.i + (byteF a ++ 45 :: byteF b).length)) := by
  obtain ⟨h1, h2⟩ := h.app
  obtain ⟨h3, h4, h5⟩ := h2.cons
  unfold itemF
  rw [letter_byte h1 ha]
  show thn (endF bs s) _ = _
  rw [end_byte h1 ha, thn_ok]
  show (if sb bs (s.i + (byteF a).length) 45 = true then _ else _) = _
  rw [sbT h3 h4, if_pos rfl]
  have e := end_byte (s := (s.to (s.i + (byteF a).length)).nx) (b := b) h5 hb
  rw [e, thn_ok]
  show Except.ok (rgF a b, s.to (s.i + (byteF a).length + 1 + (byteF b).length)) = _
  rw [List.length_append, List.length_cons, show s.i + (byteF a).length + 1 + (byteF b).length = s.i + ((byteF a).length + ((byteF b).length + 1)) by omega]
end
/-- one item of a set's form -/
def itF (r : Nat × Nat) : List Nat := if r.1 = r.2 then byteF r.1 else byteF r.1 ++ 45 :: byteF r.2
def runF (r : Nat × Nat) : List Nat := byteF r.1 ++ (if r.1 < r.2 then (if r.2 - r.1 = 1 then [] else [45]) ++ byteF r.2 else [])
def splitR (r : Nat × Nat) : List (Nat × Nat) := if r.2 = r.1 + 1 then [(r.1, r.1), (r.2, r.2)] else [r]
theorem split_form (r : Nat × Nat) (h : r.1 ≤ r.2) : (splitR r).flatMap itF = runF r := by
  unfold splitR runF
  by_cases h1 : r.2 = r.1 + 1
  · rw [if_pos h1, if_pos (by omega), if_pos (by omega)]
    simp [itF]
  · rw [if_neg h1]
    by_cases h2 : r.1 = r.2
    · rw [if_neg (by omega)]; simp [itF, h2]
    · rw [if_pos (by omega), if_neg (by omega)]; simp [itF, h2]
theorem splits_form (rs : List (Nat × Nat)) (h : ∀ r ∈ rs, r.1 ≤ r.2) : (rs.flatMap splitR).flatMap itF = rs.flatMap runF := by
  induction rs with
  | nil => rfl
  | cons r t ih => rw [List.flatMap_cons, List.flatMap_append, List.flatMap_cons, split_form r (h r (by simp)), ih fun x hx => h x (by simp [hx])]
def inR (rs : List (Nat × Nat)) (i : Nat) : Bool := rs.any fun r => rgF r.1 r.2 i
theorem split_in (r : Nat × Nat) (i : Nat) : inR (splitR r) i = rgF r.1 r.2 i := by
  unfold splitR inR
  split
  · rename_i h
    simp only [List.any_cons, List.any_nil, Bool.or_false, rgF]
    rw [Bool.eq_iff_iff]; simp; omega
  · simp
theorem splits_in (rs : List (Nat × Nat)) (i : Nat) : inR (rs.flatMap splitR) i = inR rs i := by
  induction rs with
  | nil => rfl
  | cons r t ih =>
    have e : inR (r :: t) i = (rgF r.1 r.2 i || inR t i) := by simp [inR]
    have e2 : inR (splitR r ++ t.flatMap splitR) i = (inR (splitR r) i || inR (t.flatMap splitR) i) := by simp [inR]
    rw [List.flatMap_cons, e2, ih, split_in, e]
theorem itF_pos (r : Nat × Nat) : ∃ c t, itF r = c :: t ∧ c ≠ 45 ∧ c ≠ 93 ∧ c ≠ 94 := by
  obtain ⟨c, t, e, h⟩ := byte_cons r.1
  have hc : c ≠ 45 ∧ c ≠ 93 ∧ c ≠ 94 := by
    rcases h with ⟨ha, rfl, _⟩ | ⟨_, rfl, _⟩
    · have := (isAl_iff _).1 ha; omega
    · omega
  unfold itF
  split
  · exact ⟨c, t, e, hc⟩
  · exact ⟨c, t ++ 45 :: byteF r.2, by rw [e]; rfl, hc⟩
theorem item_one_run {bs : List Nat} {s : St} (r : Nat × Nat) (hr : r.1 ≤ r.2 ∧ r.2 < 256) (h : Lay bs s.i (itF r)) (hn : sb bs (s.i + (itF r).length) 45 = false) : itemF bs s = .ok (rgF r.1 r.2, s.to (s.i + (itF r).length)) := by
  unfold itF at *
  split at h
  · rename_i e
    rw [if_pos e] at hn ⊢
    rw [item_single h (by omega) hn, ← e]
  · rename_i e
    rw [if_neg e]
    exact item_range h (by omega) (by omega)
theorem cls_items {bs : List Nat} : ∀ (rs : List (Nat × Nat)) (_ : ∀ r ∈ rs, r.1 ≤ r.2 ∧ r.2 < 256) (n : Nat) (f : Nat → Bool) (s : St), Lay bs s.i (rs.flatMap itF ++ [93]) → rs.length < n →
    ∃ g, clsL bs n f s = .ok (g, s.to (s.i + (rs.flatMap itF).length + 1)) ∧ ∀ i, g i = (f i || inR rs i)
  | [], _, n, f, s, h, hn => by
    obtain ⟨n, rfl⟩ : ∃ m, n = m + 1 := ⟨n - 1, by simp at hn; omega⟩
    have h1 : Lay bs s.i [93] := h
    refine ⟨f, ?_, fun i => by simp [inR]⟩
    rw [clsL, if_pos (sbT h1.cons.1 h1.cons.2.1)]
    rfl
  | r :: rs, hr, n, f, s, h, hn => by
    obtain ⟨n, rfl⟩ : ∃ m, n = m + 1 := ⟨n - 1, by simp at hn; omega⟩
    rw [List.flatMap_cons, List.append_assoc] at h
    obtain ⟨h1, h2⟩ := h.app
    obtain ⟨c, t, e, c1, c2, c3⟩ := itF_pos r
    have hc := h1
    rw [e] at hc
    have hnext : sb bs (s.i + (itF r).length) 45 = false := by
      rcases rs with _ | ⟨r2, rs⟩
      · have h3 : Lay bs (s.i + (itF r).length) [93] := h2
        exact sbF (by have := h3.cons.2.1; omega)
      · obtain ⟨c', t', e', d1, d2, d3⟩ := itF_pos r2
        rw [List.flatMap_cons, e'] at h2
        have h3 := (show Lay bs (s.i + (itF r).length) (c' :: (t' ++ (rs.flatMap itF ++ [93]))) by simpa using h2).cons.2.1
        exact sbF (by omega)
    obtain ⟨g, hg, hg2⟩ := cls_items rs (fun x hx => hr x (by simp [hx])) n (fun i => f i || rgF r.1 r.2 i) (s.to (s.i + (itF r).length)) h2 (by simp at hn; omega)
    refine ⟨g, ?_, fun i => ?_⟩
    · rw [clsL, if_neg (by rw [sbF (by have := hc.cons.2.1; omega)]; simp), item_one_run r (hr r (by simp)) h1 hnext, thn_ok, hg, List.flatMap_cons, List.length_append]
      show Except.ok (g, s.to (s.i + (itF r).length + (rs.flatMap itF).length + 1)) = _
      rw [Nat.add_assoc s.i]
    · rw [hg2]; simp [inR, Bool.or_assoc]
theorem items_le (rs : List (Nat × Nat)) : rs.length ≤ (rs.flatMap itF).length := by
  induction rs with
  | nil => simp
  | cons r t ih =>
    obtain ⟨c, x, e, _⟩ := itF_pos r
    rw [List.flatMap_cons, List.length_append, e]; simp only [List.length_cons]; omega
theorem class_items {bs : List Nat} {s : St} (rs : List (Nat × Nat)) (h0 : rs ≠ []) (hr : ∀ r ∈ rs, r.1 ≤ r.2 ∧ r.2 < 256) (h : Lay bs s.i (91 :: rs.flatMap itF ++ [93])) :
    ∃ g, classF bs s = .ok (g, s.to (s.i + (91 :: rs.flatMap itF ++ [93]).length)) ∧ ∀ i, g i = inR rs i := by
  obtain ⟨r, rs, rfl⟩ : ∃ r t, rs = r :: t := by
    cases rs with
    | nil => exact absurd rfl h0
    | cons r t => exact ⟨r, t, rfl⟩
  have h' : Lay bs s.i (91 :: ((r :: rs).flatMap itF ++ [93])) := h
  obtain ⟨l1, l2, l3⟩ := h'.cons
  rw [List.flatMap_cons, List.append_assoc] at l3
  obtain ⟨h1, h2⟩ := l3.app
  obtain ⟨c, t, e, c1, c2, c3⟩ := itF_pos r
  have hc := h1
  rw [e] at hc
  have hnext : sb bs (s.i + 1 + (itF r).length) 45 = false := by
    rcases rs with _ | ⟨r2, rs⟩
    · have h3 : Lay bs (s.i + 1 + (itF r).length) [93] := h2
      exact sbF (by have := h3.cons.2.1; omega)
    · obtain ⟨c', t', e', d1, d2, d3⟩ := itF_pos r2
      rw [List.flatMap_cons, e'] at h2
      have h3 := (show Lay bs (s.i + 1 + (itF r).length) (c' :: (t' ++ (rs.flatMap itF ++ [93]))) by simpa using h2).cons.2.1
      exact sbF (by omega)
  have hlen := h.le
  have hil := items_le rs
  obtain ⟨g, hg, hg2⟩ := cls_items rs (fun x hx => hr x (by simp [hx])) (bs.length + 1) (rgF r.1 r.2) ((s.nx).to (s.i + 1 + (itF r).length)) h2 (by simp only [List.cons_append, List.length_append, List.length_cons, List.length_nil, List.flatMap_cons] at hlen; omega)
  refine ⟨g, ?_, fun i => by rw [hg2]; simp [inR]⟩
  have e94 : sb bs s.nx.i 94 = false := sbF (by rintro ⟨_, h⟩; have := hc.cons.2.1; rw [show bn bs s.nx.i = bn bs (s.i + 1) from rfl] at h; omega)
  unfold classF mustF
  rw [sbT l1 l2, if_pos rfl, thn_ok, e94]
  show thn (itemF bs s.nx) _ = _
  rw [item_one_run (s := s.nx) r (hr r (by simp)) h1 hnext, thn_ok]
  show thn (clsL bs (bs.length + 1) (rgF r.1 r.2) ((s.nx).to (s.i + 1 + (itF r).length))) _ = _
  rw [hg, thn_ok]
  show Except.ok (g, s.to (s.i + 1 + (itF r).length + (rs.flatMap itF).length + 1)) = _
  congr 2
  rw [List.flatMap_cons]
  unfold St.to
  congr 1
  simp only [List.cons_append, List.length_append, List.length_cons, List.length_nil]; omega
end Go.Proofs.Ytkljagffccommaa
namespace Go.Proofs.Ytkljagffccommaa
open Go.RowKit
def blF (f : Nat → Bool) : List Nat := (List.range 256).filter f
def pr (l : List (Nat × Nat)) (j : Nat) : Nat × Nat := l.getD j (0, 0)
/-- one byte more to the runs -/
def stepR (rs : List (Nat × Nat)) (b : Nat) : List (Nat × Nat) :=
  if 0 < rs.length ∧ (pr rs (rs.length - 1)).2 = (b + 255) % 256 then rs.set (rs.length - 1) ((pr rs (rs.length - 1)).1, b) else rs ++ [(b, b)]
/-- the runs of the first k bytes of a list -/
def runsK (l : List Nat) : Nat → List (Nat × Nat)
  | 0 => []
  | k + 1 => stepR (runsK l k) (bn l k)
theorem stepR_nil (b : Nat) : stepR [] b = [(b, b)] := rfl
theorem pr_last (init : List (Nat × Nat)) (p : Nat × Nat) : pr (init ++ [p]) init.length = p := by unfold pr; simp
theorem stepR_snoc (init : List (Nat × Nat)) (p : Nat × Nat) (b : Nat) : stepR (init ++ [p]) b = if p.2 = (b + 255) % 256 then init ++ [(p.1, b)] else init ++ [p] ++ [(b, b)] := by
  unfold stepR
  have e : (init ++ [p]).length - 1 = init.length := by simp
  rw [e, pr_last]
  by_cases h : p.2 = (b + 255) % 256
  · rw [if_pos ⟨by simp, h⟩, if_pos h]; simp
  · rw [if_neg (fun x => h x.2), if_neg h]
theorem inR_app (a b : List (Nat × Nat)) (i : Nat) : inR (a ++ b) i = (inR a i || inR b i) := by simp [inR]
theorem inR_one (p : Nat × Nat) (i : Nat) : inR [p] i = rgF p.1 p.2 i := by simp [inR]
theorem runs_ok (l : List Nat) (hl : ∀ j, j + 1 < l.length → bn l j < bn l (j + 1)) (h256 : ∀ j, bn l j < 256) : ∀ k, k < l.length →
    ∃ init p, runsK l (k + 1) = init ++ [p] ∧ p.2 = bn l k ∧ (∀ r ∈ init ++ [p], r.1 ≤ r.2 ∧ r.2 < 256) ∧ ∀ i, inR (init ++ [p]) i = true ↔ ∃ j, j < k + 1 ∧ bn l j = i
  | 0, hk => by
    refine ⟨[], (bn l 0, bn l 0), rfl, rfl, fun r hr => ?_, fun i => ?_⟩
    · simp at hr; subst hr; exact ⟨Nat.le_refl _, h256 0⟩
    · rw [List.nil_append, inR_one]
      unfold rgF
      rw [decide_eq_true_iff]
      constructor
      · intro h; exact ⟨0, by omega, by simp only at h; omega⟩
      · rintro ⟨j, hj, e⟩
        obtain rfl : j = 0 := by omega
        simp only; omega
  | k + 1, hk => by
    obtain ⟨init, p, e, hp, hr, hi⟩ := runs_ok l hl h256 k (by omega)
    have hup := hl k hk
    have hx : ∀ i, (∃ j, j < k + 1 + 1 ∧ bn l j = i) ↔ (∃ j, j < k + 1 ∧ bn l j = i) ∨ bn l (k + 1) = i := fun i => by
      constructor
      · rintro ⟨j, hj, e⟩
        by_cases h : j = k + 1
        · subst h; exact .inr e
        · exact .inl ⟨j, by omega, e⟩
      · rintro (⟨j, hj, e⟩ | e)
        · exact ⟨j, by omega, e⟩
        · exact ⟨k + 1, by omega, e⟩
    have hb := h256 (k + 1)
    have hpr := hr p (by simp)
    rw [runsK, e, stepR_snoc]
    by_cases hc : p.2 = (bn l (k + 1) + 255) % 256
    · rw [if_pos hc]
      refine ⟨init, _, rfl, rfl, fun r hr' => ?_, fun i => ?_⟩
      · rcases List.mem_append.1 hr' with h | h
        · exact hr r (by simp [h])
        · simp at h; subst h; exact ⟨by simp only; omega, hb⟩
      · rw [hx, ← hi, inR_app, inR_app, inR_one, inR_one]
        simp only [Bool.or_eq_true, rgF, decide_eq_true_iff]
        constructor
        · rintro (h | h)
          · exact .inl (.inl h)
          · by_cases h2 : bn l (k + 1) = i
            · exact .inr h2
            · exact .inl (.inr (by omega))
        · rintro ((h | h) | h)
          · exact .inl h
          · exact .inr (by omega)
          · exact .inr (by omega)
    · rw [if_neg hc]
      refine ⟨init ++ [p], _, rfl, rfl, fun r hr' => ?_, fun i => ?_⟩
      · rcases List.mem_append.1 hr' with h | h
        · exact hr r h
        · simp at h; subst h; exact ⟨Nat.le_refl _, hb⟩
      · rw [hx, ← hi, inR_app _ [_], inR_one]
        simp only [Bool.or_eq_true, rgF, decide_eq_true_iff]
        constructor
        · rintro (h | h)
          · exact .inl h
          · exact .inr (by omega)
        · rintro (h | h)
          · exact .inl h
          · exact .inr (by omega)
theorem bl_up (f : Nat → Bool) (j : Nat) (hj : j + 1 < (blF f).length) : bn (blF f) j < bn (blF f) (j + 1) := by
  have hs : (blF f).Pairwise (· < ·) := List.Pairwise.filter _ List.pairwise_lt_range
  unfold bn
  rw [List.getD, List.getD, List.getElem?_eq_getElem hj, List.getElem?_eq_getElem (by omega)]
  exact List.pairwise_iff_getElem.1 hs j (j + 1) (by omega) hj (by omega)
theorem bl_mem (f : Nat → Bool) (i : Nat) (hi : i < 256) : (∃ j, j < (blF f).length ∧ bn (blF f) j = i) ↔ f i = true := by
  have h1 : i ∈ blF f ↔ f i = true := by unfold blF; simp [hi]
  rw [← h1, List.mem_iff_getElem]
  constructor
  · rintro ⟨j, hj, e⟩
    refine ⟨j, hj, ?_⟩
    unfold bn at e
    rw [List.getD, List.getElem?_eq_getElem hj] at e
    exact e
  · rintro ⟨j, hj, e⟩
    refine ⟨j, hj, ?_⟩
    unfold bn
    rw [List.getD, List.getElem?_eq_getElem hj]
    exact e
theorem bl_lt (f : Nat → Bool) (j : Nat) : bn (blF f) j < 256 := by
  unfold bn
  rcases Nat.lt_or_ge j (blF f).length with h | h
  · rw [List.getD, List.getElem?_eq_getElem h, Option.getD_some]
    have hm : (blF f)[j] ∈ blF f := List.getElem_mem h
    unfold blF at hm
    exact List.mem_range.1 (List.mem_filter.1 hm).1
  · rw [List.getD, List.getElem?_eq_none h]; decide
def runsF (f : Nat → Bool) : List (Nat × Nat) := runsK (blF f) (blF f).length
def setForm (f : Nat → Bool) : List Nat := if (blF f).length = 0 then [91, 98, 45, 97, 93] else if (blF f).length = 1 then byteF (bn (blF f) 0) else 91 :: (runsF f).flatMap runF ++ [93]
theorem runsF_ok (f : Nat → Bool) (h0 : 0 < (blF f).length) : runsF f ≠ [] ∧ (∀ r ∈ runsF f, r.1 ≤ r.2 ∧ r.2 < 256) ∧ ∀ i, i < 256 → inR (runsF f) i = f i := by
  obtain ⟨n, hn⟩ : ∃ n, (blF f).length = n + 1 := ⟨(blF f).length - 1, by omega⟩
  obtain ⟨init, p, e, _, h1, h2⟩ := runs_ok (blF f) (fun j hj => bl_up f j hj) (bl_lt f) n (by omega)
  unfold runsF
  rw [hn, e]
  refine ⟨by simp, h1, fun i hi => ?_⟩
  rw [Bool.eq_iff_iff, h2, ← bl_mem f i hi, hn]
theorem eqk_of (f g : Nat → Bool) (h : ∀ i, i < 256 → f i = g i) : eqK f g = true := (eqK_iff f g).2 h
section
variable {bs : List Nat} {s : St}
theorem atom_class (rec : St → Except Nat (Tm × St)) {g : Nat → Bool} {s' : St} (h1 : s.i < bs.length) (hb : bn bs s.i = 91) (he : classF bs s = .ok (g, s')) : atomF rec bs s = .ok (setT g, s') := by
  unfold atomF
  rw [sbF (by omega), sbT h1 hb]
  simp only [Bool.false_eq_true, if_false, if_true]
  rw [he, thn_ok]
theorem atom_byte (rec : St → Except Nat (Tm × St)) {b : Nat} (h : Lay bs s.i (byteF b)) (hb : b < 256) : atomF rec bs s = .ok (setT (rgF b b), s.to (s.i + (byteF b).length)) := by
  cases ha : isAl b with
  | true =>
    obtain ⟨h1, h2, h3⟩ := byte_al h ha
    have hr := (isAl_iff b).1 ha
    unfold atomF takeButF
    rw [sbF (by omega), sbF (by omega), sbF (by omega), sbF (by omega), sbF (by omega), sbF (by omega)]
    simp only [Bool.false_eq_true, if_false]
    rw [if_pos ⟨h1, by rw [h2]; simp; omega⟩, h2, h3]
    rfl
  | false =>
    obtain ⟨H, h3⟩ := byte_hex h hb ha
    have h0 := H.b0
    have hl := H.lt
    unfold atomF
    rw [sbF (by omega), sbF (by omega), sbT (by omega) h0]
    simp only [Bool.false_eq_true, if_false, if_true]
    rw [H.esc, thn_ok, h3, show 16 * (b / 16) + b % 16 = b by omega]
    rfl
/-- a set's form is read as that set -/
theorem atom_set (rec : St → Except Nat (Tm × St)) (f : Nat → Bool) (h : Lay bs s.i (setForm f)) : ∃ g, atomF rec bs s = .ok (setT g, s.to (s.i + (setForm f).length)) ∧ eqK g f = true := by
  unfold setForm at *
  by_cases h0 : (blF f).length = 0
  · rw [if_pos h0] at h ⊢
    have hL : Lay bs s.i (91 :: [(98, 97)].flatMap itF ++ [93]) := h
    have hc := hL.cons
    have l2 := hc.2.2.cons
    have l3 := l2.2.2.cons
    have l4 := l3.2.2.cons
    have l5 := l4.2.2.cons
    have hi : itemF bs s.nx = .ok (rgF 98 97, s.to (s.i + 4)) := by
      have := item_range (s := s.nx) (a := 98) (b := 97) hc.2.2.app.1 (by omega) (by omega)
      rw [this]; rfl
    have e94 : sb bs s.nx.i 94 = false := sbF (by rintro ⟨_, h⟩; have := l2.2.1; rw [show bn bs s.nx.i = bn bs (s.i + 1) from rfl] at h; omega)
    refine ⟨rgF 98 97, atom_class rec hc.1 hc.2.1 ?_, eqk_of _ _ fun i hi => ?_⟩
    · unfold classF mustF
      rw [sbT hc.1 hc.2.1, if_pos rfl, thn_ok, e94]
      show thn (itemF bs s.nx) _ = _
      have e93 : sb bs (s.to (s.i + 4)).i 93 = true := sbT (by have := l5.1; show s.i + 4 < _; omega) l5.2.1
      rw [hi, thn_ok, clsL, if_pos e93, thn_ok]
      rfl
    · have : ¬ f i = true := fun e => by
        obtain ⟨j, hj, _⟩ := (bl_mem f i hi).2 e
        omega
      rw [Bool.eq_iff_iff]
      simp only [rgF, decide_eq_true_iff]
      constructor
      · intro h; omega
      · intro h; exact absurd h this
  · rw [if_neg h0] at h ⊢
    by_cases h1 : (blF f).length = 1
    · rw [if_pos h1] at h ⊢
      refine ⟨_, atom_byte rec h (bl_lt f 0), eqk_of _ _ fun i hi => ?_⟩
      rw [Bool.eq_iff_iff, ← bl_mem f i hi]
      simp only [rgF, decide_eq_true_iff]
      constructor
      · intro h; exact ⟨0, by omega, by omega⟩
      · rintro ⟨j, hj, e⟩
        obtain rfl : j = 0 := by omega
        omega
    · rw [if_neg h1] at h ⊢
      obtain ⟨r0, r1, r2⟩ := runsF_ok f (by omega)
      have e := splits_form (runsF f) fun r hr => (r1 r hr).1
      have hs : ∀ r ∈ (runsF f).flatMap splitR, r.1 ≤ r.2 ∧ r.2 < 256 := fun r hr => by
        obtain ⟨x, hx, hr⟩ := List.mem_flatMap.1 hr
        have := r1 x hx
        unfold splitR at hr
        split at hr
        · simp at hr; rcases hr with rfl | rfl <;> exact ⟨Nat.le_refl _, by simp only; omega⟩
        · simp at hr; subst hr; exact this
      have hne : (runsF f).flatMap splitR ≠ [] := by
        obtain ⟨x, t, ex⟩ : ∃ x t, runsF f = x :: t := by
          cases hq : runsF f with
          | nil => exact absurd hq r0
          | cons x t => exact ⟨x, t, rfl⟩
        rw [ex, List.flatMap_cons]
        unfold splitR
        split <;> simp
      rw [← e] at h ⊢
      obtain ⟨g, hg, hg2⟩ := class_items _ hne hs h
      have hc := (show Lay bs s.i (91 :: (((runsF f).flatMap splitR).flatMap itF ++ [93])) from h).cons
      exact ⟨g, atom_class rec hc.1 hc.2.1 hg, eqk_of _ _ fun i hi => by rw [hg2, splits_in, r2 i hi]⟩
end
end Go.Proofs.Ytkljagffccommaa
namespace Go.Proofs.Ytkljagffccommaa
open Go.RowKit
def numF (n : Nat) : List Nat := if n < 10 then [48 + n] else if n < 100 then [48 + n / 10, 48 + n % 10] else [48 + n / 100, 48 + n / 10 % 10, 48 + n % 10]
section
variable {bs : List Nat} {s : St}
theorem dgT {i d : Nat} (h1 : i < bs.length) (h2 : bn bs i = 48 + d) (hd : d < 10) : dg bs i = true := by unfold dg isD; rw [decide_eq_true h1, h2]; simp; omega
theorem dgF_of {i : Nat} (h : ∀ d, d < 10 → bn bs i ≠ 48 + d) : dg bs i = false := by
  unfold dg isD
  rw [Bool.and_eq_false_iff]
  right
  rw [decide_eq_false_iff_not]
  intro hh
  exact h (bn bs i - 48) (by omega) (by omega)
theorem digit_is {d : Nat} (h1 : s.i < bs.length) (h2 : bn bs s.i = 48 + d) (hd : d < 10) : digitF bs s = .ok (d, s.nx) := by
  unfold digitF; rw [dgT h1 h2 hd, if_pos rfl, h2]; congr 2; omega
theorem numL_on {k n d : Nat} (h1 : s.i < bs.length) (h2 : bn bs s.i = 48 + d) (hd : d < 10) : numL bs (k + 1) n s = numL bs k (10 * n + d) s.nx := by
  rw [numL, dgT h1 h2 hd, if_pos rfl, h2, show 48 + d - 48 = d by omega]
theorem numL_off {k n : Nat} (h : dg bs s.i = false) : numL bs k n s = (n, s) := by
  cases k with
  | zero => rfl
  | succ k => rw [numL, h]; simp
theorem num_reads (n : Nat) (hn : n < 1000) (h : Lay bs s.i (numF n)) (hd : dg bs (s.i + (numF n).length) = false) : numberF bs s = .ok (n, s.to (s.i + (numF n).length)) := by
  unfold numF at *
  unfold numberF
  by_cases h1 : n < 10
  · rw [if_pos h1] at h hd ⊢
    have a := h.cons
    rw [digit_is a.1 a.2.1 (by omega), thn_ok, numL_off (s := s.nx) hd]
    rfl
  · rw [if_neg h1] at h hd ⊢
    by_cases h2 : n < 100
    · rw [if_pos h2] at h hd ⊢
      have a := h.cons
      have b := a.2.2.cons
      rw [digit_is a.1 a.2.1 (by omega), thn_ok, numL_on (s := s.nx) b.1 b.2.1 (by omega), numL_off (s := s.nx.nx) hd, show 10 * (n / 10) + n % 10 = n by omega]
      rfl
    · rw [if_neg h2] at h hd ⊢
      have a := h.cons
      have b := a.2.2.cons
      have c := b.2.2.cons
      rw [digit_is a.1 a.2.1 (by omega), thn_ok, numL_on (s := s.nx) b.1 b.2.1 (by omega), numL_on (s := s.nx.nx) c.1 c.2.1 (by omega), show 10 * (10 * (n / 100) + n / 10 % 10) + n % 10 = n by omega]
      rfl
theorem num_pos (n : Nat) : ∃ d r, numF n = (48 + d) :: r ∧ (n < 1000 → d < 10) := by
  unfold numF
  split
  · exact ⟨n, [], rfl, fun _ => by omega⟩
  · split
    · exact ⟨n / 10, _, rfl, fun _ => by omega⟩
    · exact ⟨n / 100, _, rfl, fun _ => by omega⟩
end
def quantOf (lo hi : Int) : List Nat :=
  if hi = -1 ∧ lo < 2 then (if lo = 0 then [42] else [43])
  else if lo = 0 ∧ hi = 1 then [63]
  else if hi = -1 then 123 :: numF lo.toNat ++ [44, 125]
  else if hi = lo then 123 :: numF lo.toNat ++ [125]
  else 123 :: numF lo.toNat ++ 44 :: numF hi.toNat ++ [125]
theorem to_eq {α : Type} (x : α) (s : St) {i j : Nat} (h : i = j) : (Except.ok (x, s.to i) : Except Nat (α × St)) = .ok (x, s.to j) := by rw [h]
def bndOk (lo hi : Int) : Prop := 0 ≤ lo ∧ lo ≤ 200 ∧ (hi = -1 ∨ (lo ≤ hi ∧ hi ≤ 200))
theorem fits_ok {lo hi : Int} (h : bndOk lo hi) : fitsF lo hi = true := by
  unfold fitsF
  obtain ⟨h1, h2, h3⟩ := h
  split
  · exact decide_eq_true h2
  · exact decide_eq_true (by omega)
theorem late_ok {lo hi : Int} (h : bndOk lo hi) (s0 s : St) : lateF s0 lo hi s = s := by
  unfold lateF; rw [fits_ok h]; simp
section
variable {bs : List Nat} {s : St}
theorem quant_reads (lo hi : Int) (hb : bndOk lo hi) (h : Lay bs s.i (quantOf lo hi)) : quantF bs s = .ok ((lo, hi, true), s.to (s.i + (quantOf lo hi).length)) := by
  have hb' := hb
  obtain ⟨b1, b2, b3⟩ := hb'
  have hlo : ((lo.toNat : Nat) : Int) = lo := by omega
  unfold quantOf at *
  by_cases c1 : hi = -1 ∧ lo < 2
  · rw [if_pos c1] at h ⊢
    obtain ⟨rfl, c2⟩ := c1
    by_cases c3 : lo = 0
    · rw [if_pos c3] at h ⊢
      subst c3
      have a := h.cons
      unfold quantF
      rw [sbT a.1 a.2.1, if_pos rfl]; rfl
    · rw [if_neg c3] at h ⊢
      obtain rfl : lo = 1 := by omega
      have a := h.cons
      unfold quantF
      rw [sbF (by omega), sbT a.1 a.2.1]
      simp only [Bool.false_eq_true, if_false, if_true]
      rfl
  · rw [if_neg c1] at h ⊢
    by_cases c2 : lo = 0 ∧ hi = 1
    · rw [if_pos c2] at h ⊢
      obtain ⟨rfl, rfl⟩ := c2
      have a := h.cons
      unfold quantF
      rw [sbF (by omega), sbF (by omega), sbT a.1 a.2.1]
      simp only [Bool.false_eq_true, if_false, if_true]
      rfl
    · rw [if_neg c2] at h ⊢
      -- the braces
      have key : ∀ (rest : List Nat) (s3 : St) (_ : Lay bs s.i (123 :: (numF lo.toNat ++ rest))) (c : Nat) (r' : List Nat) (_ : rest = c :: r') (_ : ∀ d, d < 10 → c ≠ 48 + d)
          (_ : upperF bs lo.toNat (s.to (s.i + 1 + (numF lo.toNat).length)) = .ok (hi, s3)) (_ : sb bs s3.i 125 = true), quantF bs s = .ok ((lo, hi, true), s3.nx) := by
        intro rest s3 hL c r' er hc hu h125
        have a := hL.cons
        obtain ⟨n1, n2⟩ := a.2.2.app
        rw [er] at n2
        have e := n2.cons
        have hn : numberF bs s.nx = .ok (lo.toNat, s.to (s.i + 1 + (numF lo.toNat).length)) := num_reads (s := s.nx) lo.toNat (by omega) n1 (dgF_of fun d hd => by rw [show bn bs (s.nx.i + (numF lo.toNat).length) = c from e.2.1]; exact hc d hd)
        unfold quantF bracesF mustF
        rw [sbF (by omega), sbF (by omega), sbF (by omega), sbT a.1 a.2.1]
        simp only [Bool.false_eq_true, if_false, if_true]
        rw [thn_ok, hn, thn_ok, hu, thn_ok, h125, if_pos rfl, thn_ok, thn_ok, hlo, late_ok hb]
      by_cases c3 : hi = -1
      · rw [if_pos c3] at h ⊢
        have hL : Lay bs s.i (123 :: (numF lo.toNat ++ [44, 125])) := h
        have e1 := hL.cons.2.2.app.2.cons
        have e2 := e1.2.2.cons
        have hu : upperF bs lo.toNat (s.to (s.i + 1 + (numF lo.toNat).length)) = .ok (hi, (s.to (s.i + 1 + (numF lo.toNat).length)).nx) := by
          unfold upperF
          rw [sbT (i := (s.to (s.i + 1 + (numF lo.toNat).length)).i) e1.1 e1.2.1, if_pos rfl, sbT (i := (s.to (s.i + 1 + (numF lo.toNat).length)).nx.i) e2.1 e2.2.1, if_pos rfl, c3]
        rw [key [44, 125] _ hL 44 [125] rfl (by omega) hu (sbT e2.1 e2.2.1)]
        exact to_eq (lo, hi, true) s (i := s.i + 1 + (numF lo.toNat).length + 1 + 1) (by simp; omega)
      · rw [if_neg c3] at h ⊢
        by_cases c4 : hi = lo
        · rw [if_pos c4] at h ⊢
          have hL : Lay bs s.i (123 :: (numF lo.toNat ++ [125])) := h
          have e1 := hL.cons.2.2.app.2.cons
          have hu : upperF bs lo.toNat (s.to (s.i + 1 + (numF lo.toNat).length)) = .ok (hi, s.to (s.i + 1 + (numF lo.toNat).length)) := by
            unfold upperF
            rw [sbF (i := (s.to (s.i + 1 + (numF lo.toNat).length)).i) (by rintro ⟨_, h⟩; have := e1.2.1; rw [show bn bs (s.to (s.i + 1 + (numF lo.toNat).length)).i = bn bs (s.i + 1 + (numF lo.toNat).length) from rfl] at h; omega)]
            simp only [Bool.false_eq_true, if_false]
            rw [hlo, c4]
          rw [key [125] _ hL 125 [] rfl (by omega) hu (sbT e1.1 e1.2.1)]
          exact to_eq (lo, hi, true) s (i := s.i + 1 + (numF lo.toNat).length + 1) (by simp; omega)
        · rw [if_neg c4] at h ⊢
          have hL : Lay bs s.i (123 :: (numF lo.toNat ++ (44 :: (numF hi.toNat ++ [125])))) := by simpa using h
          have e1 := hL.cons.2.2.app.2.cons
          obtain ⟨m1, m2⟩ := e1.2.2.app
          have e2 := m2.cons
          obtain ⟨d, r, ed, hd⟩ := num_pos hi.toNat
          have hd10 := hd (by omega)
          have m3 := m1
          rw [ed] at m3
          have e3 := m3.cons
          have hhi : ((hi.toNat : Nat) : Int) = hi := by omega
          have hn : numberF bs (s.to (s.i + 1 + (numF lo.toNat).length)).nx = .ok (hi.toNat, s.to (s.i + 1 + (numF lo.toNat).length + 1 + (numF hi.toNat).length)) := num_reads (s := (s.to (s.i + 1 + (numF lo.toNat).length)).nx) hi.toNat (by omega) m1 (dgF_of fun d hd => by rw [show bn bs ((s.to (s.i + 1 + (numF lo.toNat).length)).nx.i + (numF hi.toNat).length) = 125 from e2.2.1]; omega)
          have hu : upperF bs lo.toNat (s.to (s.i + 1 + (numF lo.toNat).length)) = .ok (hi, s.to (s.i + 1 + (numF lo.toNat).length + 1 + (numF hi.toNat).length)) := by
            unfold upperF
            rw [sbT (i := (s.to (s.i + 1 + (numF lo.toNat).length)).i) e1.1 e1.2.1, if_pos rfl, sbF (i := (s.to (s.i + 1 + (numF lo.toNat).length)).nx.i) (by rintro ⟨_, h⟩; have := e3.2.1; rw [show bn bs (s.to (s.i + 1 + (numF lo.toNat).length)).nx.i = bn bs (s.i + 1 + (numF lo.toNat).length + 1) from rfl] at h; omega)]
            simp only [Bool.false_eq_true, if_false]
            rw [hn, thn_ok, hhi]
          rw [key (44 :: (numF hi.toNat ++ [125])) _ hL 44 _ rfl (by omega) hu (sbT e2.1 e2.2.1)]
          exact to_eq (lo, hi, true) s (i := s.i + 1 + (numF lo.toNat).length + 1 + (numF hi.toNat).length + 1) (by simp; omega)
end
end Go.Proofs.Ytkljagffccommaa
namespace Go.Proofs.Ytkljagffccommaa
open Go.RowKit
def opOf : Tm → Int | .mk op _ _ _ _ => op
def needs (p k : Int) : Bool := decide (k = 7 ∨ (k = 6 ∧ p ≠ 7) ∨ (k = 1 ∧ p ≠ 7) ∨ (k = 8 ∧ p = 8))
mutual
def formT : Tm → List Nat
  | .mk op f lo hi ks => if op = 2 then setForm f else if op = 3 then [46] else if op = 4 then [94] else if op = 5 then [36]
    else if op = 6 ∨ op = 7 ∨ op = 8 then formL op ks true ++ (if op = 8 then quantOf lo hi else []) else []
def formL (p : Int) : List Tm → Bool → List Nat
  | [], _ => []
  | k :: r, first => (if p = 7 ∧ first = false then [124] else []) ++ ((if needs p (opOf k) = true then 40 :: (formT k ++ [41]) else formT k) ++ formL p r false)
end
mutual
def depT : Tm → Nat
  | .mk op _ _ _ ks => if op = 6 ∨ op = 7 ∨ op = 8 then depL op ks else 0
def depL (p : Int) : List Tm → Nat
  | [] => 0
  | k :: r => max (depT k + (if needs p (opOf k) = true then 1 else 0)) (depL p r)
end
def kidsOk (op : Int) (n : Nat) : Bool := decide ((op < 6 → n = 0) ∧ (op = 6 ∨ op = 7 → 2 ≤ n) ∧ (op = 8 → n = 1))
def bndB (lo hi : Int) : Bool := decide (0 ≤ lo ∧ lo ≤ 200 ∧ (hi = -1 ∨ (lo ≤ hi ∧ hi ≤ 200)))
mutual
def rightT : Tm → Bool
  | .mk op f lo hi ks => decide (1 ≤ op ∧ op ≤ 8) && (kidsOk op ks.length && ((decide (op = 8) || decide (lo = 0 ∧ hi = 0)) && ((decide (op = 2) || eqK f noB) && ((decide (op ≠ 8) || bndB lo hi) && rightL ks))))
def rightL : List Tm → Bool
  | [] => true
  | k :: r => rightT k && rightL r
end
def kidF (p : Int) (k : Tm) : List Nat := if needs p (opOf k) = true then 40 :: (formT k ++ [41]) else formT k
def kidD (p : Int) (k : Tm) : Nat := depT k + (if needs p (opOf k) = true then 1 else 0)
theorem formL_cons (p : Int) (k : Tm) (r : List Tm) (b : Bool) : formL p (k :: r) b = (if p = 7 ∧ b = false then [124] else []) ++ (kidF p k ++ formL p r false) := by rw [formL]; rfl
theorem depL_cons (p : Int) (k : Tm) (r : List Tm) : depL p (k :: r) = max (kidD p k) (depL p r) := by rw [depL]; rfl
structure Ri (op : Int) (f : Nat → Bool) (lo hi : Int) (ks : List Tm) : Prop where
  op1 : 1 ≤ op
  op8 : op ≤ 8
  leaf : op < 6 → ks = []
  two : op = 6 ∨ op = 7 → 2 ≤ ks.length
  rep : op = 8 → ks.length = 1
  num : op ≠ 8 → lo = 0 ∧ hi = 0
  set : op ≠ 2 → eqK f noB = true
  bnd : op = 8 → bndOk lo hi
  kids : ∀ k ∈ ks, rightT k = true
theorem rightL_all : ∀ ks : List Tm, rightL ks = true → ∀ k ∈ ks, rightT k = true
  | [], _, k, h => by simp at h
  | x :: r, h, k, hk => by
    rw [rightL, Bool.and_eq_true] at h
    rcases List.mem_cons.1 hk with e | e
    · rw [e]; exact h.1
    · exact rightL_all r h.2 k e
theorem right_is {op : Int} {f : Nat → Bool} {lo hi : Int} {ks : List Tm} (h : rightT (.mk op f lo hi ks) = true) : Ri op f lo hi ks := by
  rw [rightT] at h
  simp only [Bool.and_eq_true, Bool.or_eq_true, decide_eq_true_iff] at h
  obtain ⟨⟨h1, h2⟩, h3, h4, h5, h6, h7⟩ := h
  unfold kidsOk at h3
  rw [decide_eq_true_iff] at h3
  obtain ⟨k1, k2, k3⟩ := h3
  refine ⟨h1, h2, fun h => List.eq_nil_of_length_eq_zero (k1 h), k2, k3, fun h => ?_, fun h => ?_, fun h => ?_, rightL_all ks h7⟩
  · rcases h4 with h4 | h4
    · exact absurd h4 h
    · exact h4
  · rcases h5 with h5 | h5
    · exact absurd h5 h
    · exact h5
  · rcases h6 with h6 | h6
    · exact absurd h h6
    · unfold bndB at h6
      rw [decide_eq_true_iff] at h6
      exact h6
/-- no quant stands there -/
def okc (c : Nat) : Prop := c ≠ 42 ∧ c ≠ 43 ∧ c ≠ 63 ∧ c ≠ 123 ∧ c ≠ 124 ∧ c ≠ 41
theorem byte_okc (b : Nat) : ∃ c r, byteF b = c :: r ∧ okc c := by
  obtain ⟨c, r, e, h⟩ := byte_cons b
  refine ⟨c, r, e, ?_⟩
  unfold okc
  rcases h with ⟨ha, rfl, _⟩ | ⟨_, rfl, _⟩
  · have := (isAl_iff _).1 ha; omega
  · omega
theorem set_okc (f : Nat → Bool) : ∃ c r, setForm f = c :: r ∧ okc c := by
  unfold setForm
  split
  · exact ⟨91, _, rfl, by unfold okc; omega⟩
  · split
    · exact byte_okc _
    · exact ⟨91, _, rfl, by unfold okc; omega⟩
theorem leaf_okc (op : Int) (f : Nat → Bool) (lo hi : Int) (ks : List Tm) (h2 : 2 ≤ op) (h5 : op ≤ 5) : ∃ c r, formT (.mk op f lo hi ks) = c :: r ∧ okc c := by
  rw [formT]
  by_cases e2 : op = 2
  · rw [if_pos e2]; exact set_okc f
  rw [if_neg e2]
  by_cases e3 : op = 3
  · rw [if_pos e3]; exact ⟨46, [], rfl, by unfold okc; omega⟩
  rw [if_neg e3]
  by_cases e4 : op = 4
  · rw [if_pos e4]; exact ⟨94, [], rfl, by unfold okc; omega⟩
  rw [if_neg e4, if_pos (by omega)]
  exact ⟨36, [], rfl, by unfold okc; omega⟩
theorem needs_no {p k : Int} (h : needs p k = false) : k ≠ 7 ∧ (k = 6 → p = 7) ∧ (k = 1 → p = 7) ∧ (k = 8 → p ≠ 8) := by
  unfold needs at h
  rw [decide_eq_false_iff_not] at h
  omega
theorem kid_okc (p : Int) (hp : p = 6 ∨ p = 8) (k : Tm) (hr : rightT k = true) : ∃ c r, kidF p k = c :: r ∧ okc c := by
  obtain ⟨op, f, lo, hi, ks⟩ := k
  have h := right_is hr
  have h1 := h.op1
  have h8 := h.op8
  unfold kidF
  cases hn : needs p (opOf (.mk op f lo hi ks)) with
  | true => rw [if_pos rfl]; exact ⟨40, _, rfl, by unfold okc; omega⟩
  | false =>
    rw [if_neg (by simp)]
    have hne : needs p op = false := hn
    obtain ⟨a, b, c, d⟩ := needs_no hne
    by_cases e8 : op = 8
    · -- a repeat: its kid's form
      subst e8
      have hl := h.rep rfl
      obtain ⟨x, rfl⟩ : ∃ x, ks = [x] := by
        match ks, hl with
        | [x], _ => exact ⟨x, rfl⟩
      have hx := h.kids x (by simp)
      have hq : ∃ c r, kidF 8 x = c :: r ∧ okc c := by
        obtain ⟨op', f', lo', hi', ks'⟩ := x
        have h' := right_is hx
        have h1' := h'.op1
        have h8' := h'.op8
        unfold kidF
        cases hn' : needs 8 (opOf (.mk op' f' lo' hi' ks')) with
        | true => rw [if_pos rfl]; exact ⟨40, _, rfl, by unfold okc; omega⟩
        | false =>
          rw [if_neg (by simp)]
          have hne' : needs 8 op' = false := hn'
          obtain ⟨a', b', c', d'⟩ := needs_no hne'
          exact leaf_okc _ _ _ _ _ (by omega) (by omega)
      obtain ⟨c, r, e, hc⟩ := hq
      refine ⟨c, r ++ quantOf lo hi, ?_, hc⟩
      rw [formT, if_neg (by omega), if_neg (by omega), if_neg (by omega), if_neg (by omega), if_pos (by omega), formL_cons, e, if_neg (by omega), if_pos rfl, formL]
      simp
    · exact leaf_okc _ _ _ _ _ (by omega) (by omega)
theorem sameT_mk (op op' : Int) (f f' : Nat → Bool) (lo lo' hi hi' : Int) (ks ks' : List Tm) : sameT (.mk op f lo hi ks) (.mk op' f' lo' hi' ks') = true ↔ op = op' ∧ eqK f f' = true ∧ lo = lo' ∧ hi = hi' ∧ sameL ks ks' = true := by
  rw [sameT]
  simp only [Bool.and_eq_true, decide_eq_true_iff]
theorem eqK_symm {f g : Nat → Bool} (h : eqK f g = true) : eqK g f = true := (eqK_iff g f).2 fun i hi => ((eqK_iff f g).1 h i hi).symm
def endA (bs : List Nat) (e : Nat) : Prop := e = bs.length ∨ sb bs e 41 = true
def endC (bs : List Nat) (e : Nat) : Prop := e = bs.length ∨ sb bs e 124 = true ∨ sb bs e 41 = true
def noQ (bs : List Nat) (e : Nat) : Prop := ∀ b, b = 42 ∨ b = 43 ∨ b = 63 ∨ b = 123 → sb bs e b = false
theorem sb_is {bs : List Nat} {i b : Nat} (h : sb bs i b = true) : i < bs.length ∧ bn bs i = b := of_decide_eq_true h
theorem endA.c {bs : List Nat} {e : Nat} (h : endA bs e) : endC bs e := by rcases h with h | h; exact .inl h; exact .inr (.inr h)
theorem endC.q {bs : List Nat} {e : Nat} (h : endC bs e) : noQ bs e := fun b hb => sbF (by
  rintro ⟨h1, h2⟩
  rcases h with h | h | h
  · omega
  · have := (sb_is h).2; omega
  · have := (sb_is h).2; omega)
theorem endA.bar {bs : List Nat} {e : Nat} (h : endA bs e) : sb bs e 124 = false := sbF (by
  rintro ⟨h1, h2⟩
  rcases h with h | h
  · omega
  · have := (sb_is h).2; omega)
structure Rds (t : Tm) : Prop where
  A : ∀ (bs : List Nat) (s : St) (n : Nat), Lay bs s.i (formT t) → s.op + depT t ≤ 30 → depT t < n → endA bs (s.i + (formT t).length) → ∃ t', altF bs n s = .ok (t', s.to (s.i + (formT t).length)) ∧ sameT t' t = true
  C : opOf t ≠ 7 → ∀ (bs : List Nat) (s : St) (m : Nat), Lay bs s.i (formT t) → s.op + depT t ≤ 30 → depT t ≤ m → endC bs (s.i + (formT t).length) → ∃ t', catF (altF bs m) bs s = .ok (t', s.to (s.i + (formT t).length)) ∧ sameT t' t = true
  R : (opOf t ≠ 1 ∧ opOf t ≠ 6 ∧ opOf t ≠ 7) → ∀ (bs : List Nat) (s : St) (m : Nat), Lay bs s.i (formT t) → s.op + depT t ≤ 30 → depT t ≤ m → noQ bs (s.i + (formT t).length) → ∃ t', repF (altF bs m) bs s = .ok (t', s.to (s.i + (formT t).length)) ∧ sameT t' t = true
section
variable {bs : List Nat} {s : St} {m : Nat}
/-- a group -/
theorem group_reads {k : Tm} (h : Rds k) (hL : Lay bs s.i (40 :: (formT k ++ [41]))) (ho : s.op + (depT k + 1) ≤ 30) (hm : depT k + 1 ≤ m) : ∃ t', atomF (altF bs m) bs s = .ok (t', s.to (s.i + (40 :: (formT k ++ [41])).length)) ∧ sameT t' k = true := by
  obtain ⟨l1, l2, l3⟩ := hL.cons
  obtain ⟨l4, l5⟩ := l3.app
  have e := l5.cons
  have hd : deepF s = { s with op := s.op + 1 } := by unfold deepF; rw [if_neg (by omega)]
  obtain ⟨t', h1, h2⟩ := h.A bs { s with i := s.i + 1, op := s.op + 1 } m l4 (by show s.op + 1 + depT k ≤ 30; omega) (by omega) (.inr (sbT e.1 e.2.1))
  refine ⟨t', ?_, h2⟩
  unfold atomF
  rw [sbT l1 l2, if_pos rfl]
  unfold groupF
  rw [hd]
  unfold mustF
  rw [show sb bs ({ s with op := s.op + 1 } : St).i 40 = true from sbT l1 l2, if_pos rfl, thn_ok]
  show thn (altF bs m { s with i := s.i + 1, op := s.op + 1 }) _ = _
  rw [h1, thn_ok]
  rw [show sb bs (({ s with i := s.i + 1, op := s.op + 1 } : St).to (({ s with i := s.i + 1, op := s.op + 1 } : St).i + (formT k).length)).i 41 = true from sbT e.1 e.2.1, if_pos rfl, thn_ok]
  have e1 : (40 :: (formT k ++ [41])).length = (formT k).length + 2 := by simp
  rw [e1]
  show Except.ok (t', (⟨s.i + 1 + (formT k).length + 1, s.op + 1 - 1, s.dp, s.rp⟩ : St)) = Except.ok (t', ⟨s.i + ((formT k).length + 2), s.op, s.dp, s.rp⟩)
  rw [show s.i + 1 + (formT k).length + 1 = s.i + ((formT k).length + 2) by omega, Nat.add_sub_cancel]
theorem leaf_same {op : Int} {f : Nat → Bool} {lo hi : Int} {ks : List Tm} (hr : Ri op f lo hi ks) (h : op < 6) (g : Nat → Bool) (hg : eqK g f = true) : sameT (.mk op g 0 0 []) (.mk op f lo hi ks) = true := by
  rw [sameT_mk]
  obtain ⟨rfl, rfl⟩ := hr.num (by omega)
  rw [hr.leaf h]
  exact ⟨rfl, hg, rfl, rfl, by simp [sameL]⟩
/-- a leaf as an atom -/
theorem leaf_atom (rec : St → Except Nat (Tm × St)) {op : Int} {f : Nat → Bool} {lo hi : Int} {ks : List Tm} (hr : Ri op f lo hi ks) (h2 : 2 ≤ op) (h5 : op ≤ 5) (hL : Lay bs s.i (formT (.mk op f lo hi ks))) : ∃ t', atomF rec bs s = .ok (t', s.to (s.i + (formT (.mk op f lo hi ks)).length)) ∧ sameT t' (.mk op f lo hi ks) = true := by
  have hz : op ≠ 2 → eqK noB f = true := fun h => eqK_symm (hr.set h)
  rw [formT] at hL ⊢
  by_cases e2 : op = 2
  · rw [if_pos e2] at hL ⊢
    obtain ⟨g, h1, hg⟩ := atom_set rec f hL
    exact ⟨setT g, h1, by subst e2; exact leaf_same hr (by omega) g hg⟩
  rw [if_neg e2] at hL ⊢
  by_cases e3 : op = 3
  · rw [if_pos e3] at hL ⊢
    have a := hL.cons
    refine ⟨opT 3, ?_, by subst e3; exact leaf_same hr (by omega) noB (hz (by omega))⟩
    unfold atomF
    rw [sbF (by omega), sbF (by omega), sbF (by omega), sbT a.1 a.2.1]
    simp only [Bool.false_eq_true, if_false, if_true]
    rfl
  rw [if_neg e3] at hL ⊢
  by_cases e4 : op = 4
  · rw [if_pos e4] at hL ⊢
    have a := hL.cons
    refine ⟨opT 4, ?_, by subst e4; exact leaf_same hr (by omega) noB (hz (by omega))⟩
    unfold atomF
    rw [sbF (by omega), sbF (by omega), sbF (by omega), sbF (by omega), sbT a.1 a.2.1]
    simp only [Bool.false_eq_true, if_false, if_true]
    rfl
  have e5 : op = 5 := by omega
  rw [if_neg e4, if_pos e5] at hL ⊢
  have a := hL.cons
  refine ⟨opT 5, ?_, by subst e5; exact leaf_same hr (by omega) noB (hz (by omega))⟩
  unfold atomF
  rw [sbF (by omega), sbF (by omega), sbF (by omega), sbF (by omega), sbF (by omega), sbT a.1 a.2.1]
  simp only [Bool.false_eq_true, if_false, if_true]
  rfl
/-- a kid of a row or of a repeat, as an atom, or with its quant -/
theorem kid_rep {p : Int} (hp : p = 6) {k : Tm} (hk : Rds k) (hr : rightT k = true) (hL : Lay bs s.i (kidF p k)) (ho : s.op + kidD p k ≤ 30) (hm : kidD p k ≤ m) (hq : noQ bs (s.i + (kidF p k).length)) : ∃ t', repF (altF bs m) bs s = .ok (t', s.to (s.i + (kidF p k).length)) ∧ sameT t' k = true := by
  unfold kidF kidD at *
  cases hn : needs p (opOf k) with
  | true =>
    rw [hn, if_pos rfl] at hL hq
    rw [hn] at ho hm
    rw [if_pos rfl]
    obtain ⟨t', h1, h2⟩ := group_reads hk hL (by simpa using ho) (by simpa using hm)
    refine ⟨t', ?_, h2⟩
    unfold repF
    rw [h1, thn_ok, quant_none bs (s.to (s.i + (40 :: (formT k ++ [41])).length)) hq, thn_ok]
    rfl
  | false =>
    rw [hn, if_neg (by simp)] at hL hq
    rw [hn] at ho hm
    rw [if_neg (by simp)]
    obtain ⟨op, f, lo, hi, ks⟩ := k
    have h' := needs_no hn
    have r := right_is hr
    have r1 := r.op1
    have r8 := r.op8
    have hop : opOf (.mk op f lo hi ks) = op := rfl
    rw [hop] at h'
    exact hk.R ⟨by rw [hop]; omega, by rw [hop]; omega, by rw [hop]; omega⟩ bs s m hL (by simpa using ho) (by simpa using hm) hq
end
end Go.Proofs.Ytkljagffccommaa
