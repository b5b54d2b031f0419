/- A byte told by its hexes, alone and in a class. -/
import Derived.Test.YtnaecagmcpndhaaM1
namespace Go.Proofs.Ytnaecagmcpndhaa
open Go.RowKit

theorem quant_none (bs : List Nat) (s : St) (h : ∀ b, b = 42 ∨ b = 43 ∨ b = 63 ∨ b = 123 → sb bs s.i b = false) : quantF bs s = .ok ((0, 0, false), s) := by
  unfold quantF
  rw [h 42 (by omega), h 43 (by omega), h 63 (by omega), h 123 (by omega)]
  rfl
/-- a text of one atom is that atom -/
theorem parse_one (bs : List Nat) (f : Nat → Bool) (h0 : 0 < bs.length) (h2 : bs.length ≤ 200) (hb : bn bs 0 = 91 ∨ bn bs 0 = 92)
    (ha : ∀ rec, atomF rec bs s0 = .ok (setT f, ⟨bs.length, 0, -1, -1⟩)) : parseF bs = (setT f, 0, 0) := by
  have he : ∀ b, sb bs bs.length b = false := fun b => sbF (by omega)
  have hr : ∀ rec, repF rec bs s0 = .ok (setT f, ⟨bs.length, 0, -1, -1⟩) := fun rec => by
    unfold repF
    rw [ha rec, thn_ok, quant_none bs _ (fun b _ => he b), thn_ok]
    rfl
  have hc : ∀ rec, catF rec bs s0 = .ok (setT f, ⟨bs.length, 0, -1, -1⟩) := fun rec => by
    unfold catF
    obtain ⟨n, hn⟩ : ∃ n, bs.length = n + 1 := ⟨bs.length - 1, by omega⟩
    have e1 : catL rec bs (bs.length + 1) [] s0 = .ok ([setT f], ⟨bs.length, 0, -1, -1⟩) := by
      rw [catL, if_neg, hr rec, thn_ok, hn, catL, if_pos (.inl (by show n + 1 = bs.length; omega)), ← hn]
      · rfl
      · rintro (e | e | e)
        · have : s0.i = 0 := rfl
          omega
        · rw [sbF (by rintro ⟨_, h⟩; have : s0.i = 0 := rfl; rw [this] at h; omega)] at e; cases e
        · rw [sbF (by rintro ⟨_, h⟩; have : s0.i = 0 := rfl; rw [this] at h; omega)] at e; cases e
    rw [e1, thn_ok]
    rfl
  have hA : altF bs (bs.length + 1) s0 = .ok (setT f, ⟨bs.length, 0, -1, -1⟩) := by
    show altG (altF bs bs.length) bs s0 = _
    unfold altG
    rw [hc, thn_ok, altL, if_neg (by rw [he]; simp), thn_ok]
    rfl
  unfold parseF
  rw [if_neg (by omega), hA]
  simp
section
variable {x y h l : Nat}
theorem atom_esc (rec : St → Except Nat (Tm × St)) (bs : List Nat) (f : Nat → Bool) (s' : St) (h0 : 0 < bs.length) (hb : bn bs 0 = 92) (he : escapeF bs s0 = .ok (f, s')) : atomF rec bs s0 = .ok (setT f, s') := by
  unfold atomF
  have e : ∀ b, b ≠ 92 → sb bs s0.i b = false := fun b hb' => sbF (by rintro ⟨_, h2⟩; rw [show bn bs s0.i = 92 from hb] at h2; exact hb' h2.symm)
  rw [e 40 (by omega), e 91 (by omega), sbT (bs := bs) (i := s0.i) (b := 92) h0 hb]
  simp only [Bool.false_eq_true, if_false, if_true]
  rw [he, thn_ok]
theorem atom_cls (rec : St → Except Nat (Tm × St)) (bs : List Nat) (f : Nat → Bool) (s' : St) (h0 : 0 < bs.length) (hb : bn bs 0 = 91) (he : classF bs s0 = .ok (f, s')) : atomF rec bs s0 = .ok (setT f, s') := by
  unfold atomF
  have e : ∀ b, b ≠ 91 → sb bs s0.i b = false := fun b hb' => sbF (by rintro ⟨_, h2⟩; rw [show bn bs s0.i = 91 from hb] at h2; exact hb' h2.symm)
  rw [e 40 (by omega), sbT (bs := bs) (i := s0.i) (b := 91) h0 hb]
  simp only [Bool.false_eq_true, if_false, if_true]
  rw [he, thn_ok]
theorem pb1 (hh : hexv h = some x) (hl : hexv l = some y) : parseF [92, 120, h, l] = (one (16 * x + y), 0, 0) := by
  have H : Hex [92, 120, h, l] s0.i x y := ⟨by simp [s0, St.nx], rfl, rfl, hh, hl⟩
  exact parse_one _ _ (by simp [s0, St.nx]) (by simp) (.inr rfl) fun rec => atom_esc rec _ _ _ (by simp [s0, St.nx]) rfl H.esc
/-- an item that is one byte -/
theorem item_one {bs : List Nat} {s : St} (H : Hex bs s.i x y) (hn : sb bs (s.i + 4) 45 = false) : itemF bs s = .ok (rgF (16 * x + y) (16 * x + y), { s with i := s.i + 4 }) := by
  unfold itemF
  rw [H.letter]
  show thn (endF bs s) _ = _
  rw [H.atEnd, thn_ok]
  show (if sb bs (s.i + 4) 45 = true then _ else _) = _
  rw [hn]
  rfl
theorem pb2 (hh : hexv h = some x) (hl : hexv l = some y) : parseF [91, 92, 120, h, l, 93] = (one (16 * x + y), 0, 0) := by
  refine parse_one _ _ (by simp [s0, St.nx]) (by simp) (.inl rfl) fun rec => atom_cls rec _ _ _ (by simp [s0, St.nx]) rfl ?_
  have H : Hex [91, 92, 120, h, l, 93] (s0.nx).i x y := ⟨by simp [s0, St.nx], rfl, rfl, hh, hl⟩
  have hi := item_one (s := s0.nx) H rfl
  unfold classF mustF
  rw [show sb [91, 92, 120, h, l, 93] s0.i 91 = true from rfl, if_pos rfl, thn_ok, show nx? (sb [91, 92, 120, h, l, 93] s0.nx.i 94) s0.nx = s0.nx from rfl, hi, thn_ok, clsL]
  rfl
theorem pb3 (hh : hexv h = some x) (hl : hexv l = some y) : parseF [91, 92, 120, h, l, 45, 92, 120, h, l, 93] = (one (16 * x + y), 0, 0) := by
  refine parse_one _ _ (by simp [s0, St.nx]) (by simp) (.inl rfl) fun rec => atom_cls rec _ _ _ (by simp [s0, St.nx]) rfl ?_
  have H : Hex [91, 92, 120, h, l, 45, 92, 120, h, l, 93] (s0.nx).i x y := ⟨by simp [s0, St.nx], rfl, rfl, hh, hl⟩
  have H2 : Hex [91, 92, 120, h, l, 45, 92, 120, h, l, 93] ({ s0 with i := 6 } : St).i x y := ⟨by simp, rfl, rfl, hh, hl⟩
  have hi : itemF [91, 92, 120, h, l, 45, 92, 120, h, l, 93] s0.nx = .ok (rgF (16 * x + y) (16 * x + y), { s0 with i := 10 }) := by
    unfold itemF
    rw [H.letter]
    show thn (endF _ s0.nx) _ = _
    rw [H.atEnd, thn_ok]
    show thn (endF [91, 92, 120, h, l, 45, 92, 120, h, l, 93] { s0 with i := 6 }) _ = _
    rw [H2.atEnd, thn_ok]
  unfold classF mustF
  rw [show sb [91, 92, 120, h, l, 45, 92, 120, h, l, 93] s0.i 91 = true from rfl, if_pos rfl, thn_ok, show nx? (sb [91, 92, 120, h, l, 45, 92, 120, h, l, 93] s0.nx.i 94) s0.nx = s0.nx from rfl, hi, thn_ok, clsL]
  rfl
theorem pb4 (hh : hexv h = some x) (hl : hexv l = some y) : parseF [91, 94, 92, 120, h, l, 93] = (setT (fun i => !rgF (16 * x + y) (16 * x + y) i), 0, 0) := by
  refine parse_one _ _ (by simp [s0, St.nx]) (by simp) (.inl rfl) fun rec => atom_cls rec _ _ _ (by simp [s0, St.nx]) rfl ?_
  have H : Hex [91, 94, 92, 120, h, l, 93] (s0.nx.nx).i x y := ⟨by simp [s0, St.nx], rfl, rfl, hh, hl⟩
  have hi := item_one (s := s0.nx.nx) H rfl
  unfold classF mustF
  rw [show sb [91, 94, 92, 120, h, l, 93] s0.i 91 = true from rfl, if_pos rfl, thn_ok, show nx? (sb [91, 94, 92, 120, h, l, 93] s0.nx.i 94) s0.nx = s0.nx.nx from rfl, hi, thn_ok, clsL]
  rfl
end
end Go.Proofs.Ytnaecagmcpndhaa
