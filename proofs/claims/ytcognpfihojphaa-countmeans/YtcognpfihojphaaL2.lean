/- New, all numbers: a counter of some kind, or none. Rows of truths that came in. -/
import Derived.Test.YtcognpfihojphaaS1
import Derived.Test.YtcognpfihojphaaL1
namespace Go.Proofs.Ytcognpfihojphaa
open Go.RowKit

/-- new ages of some kind -/
def QK (L T : Nat) (S : Bool) (t : TypeId) (p : Option Addr) (o : List Nat) (B : Nat) (w : World) : Prop :=
  ∃ St, Kind t p o L T S St ∧ St w 0 agNone ∧ ∀ k, k ∈ o → B ≤ k

theorem qk_v {L T : Nat} {S : Bool} {t : TypeId} {p : Option Addr} {o : List Nat} {B : Nat} {w : World} (hT : T ≤ 200) (h : QV L T S t p o B w) : QK L T S t p o B w := by
  obtain ⟨g, rfl, rfl, rfl, hv, hg⟩ := h
  exact ⟨_, vKind g L T S hT, hv, fun k hk => by have e : k = g := (by simpa using hk); omega⟩
theorem qk_r {L T : Nat} {S : Bool} {t : TypeId} {p : Option Addr} {o : List Nat} {B : Nat} {w : World} (hT : T ≤ 200) (h : QR L T S t p o B w) : QK L T S t p o B w := by
  obtain ⟨g, m, rfl, rfl, rfl, hv, hg, hm⟩ := h
  exact ⟨_, rKind g m L T S hT, ⟨0, Nat.le_refl _, 0, 0, _, fun _ => 0, hv, rgA_none _ _ _, mo_none _ _ _ _ _⟩, fun k hk => by
    rcases List.mem_cons.1 hk with rfl | hk
    · exact hg
    · have e : k = m := (by simpa using hk)
      omega⟩
theorem qk_s {L : Nat} {t : TypeId} {p : Option Addr} {o : List Nat} {B : Nat} {w : World} (hL : L ≤ 200) (h : QS L t p o B w) : QK L L true t p o B w := by
  obtain ⟨g, rfl, rfl, rfl, hv, hg⟩ := h
  exact ⟨_, sKind g L hL, ⟨0, hv, spA_none L⟩, fun k hk => by have e : k = g := (by simpa using hk); omega⟩

theorem NewOk.mono {q : Nat → BitVec 64} {Q R : TypeId → Option Addr → List Nat → Nat → World → Prop} (hQR : ∀ t p o B w, Q t p o B w → R t p o B w) {w : World} {e : Ending} {w' : World} (h : NewOk q Q w e w') : NewOk q R w e w' := by
  obtain ⟨b, t, p, o, h1, h2, h3, h4⟩ := h
  exact ⟨b, t, p, o, h1, h2, hQR _ _ _ _ _ h3, h4⟩

/-- the numbers are right: the least, the top, whether ages stay -/
def Nums (L : Int) (m : Int) (l T : Nat) (S : Bool) : Prop := L = (l : Int) ∧ l ≤ 200 ∧ ((m = -1 ∧ T = l ∧ S = true) ∨ (m = (T : Int) ∧ l ≤ T ∧ T ≤ 200 ∧ S = false))

theorem new_cases (q : Nat → BitVec 64) (L m kind : Int) :
    (∀ W, Calls Try.prog 8 #[.agg (K.cw q), .int .i64 L, .int .i64 m, .int .i64 kind] W fun e w' => e = .returned (.tuple #[.pointer none, .int .i64 2]) ∧ Below W.heap.size W w') ∨
    ∃ l T S, Nums L m l T S ∧ T ≤ 200 ∧ ∀ W, Calls Try.prog 8 #[.agg (K.cw q), .int .i64 L, .int .i64 m, .int .i64 kind] W (NewOk q (QK l T S) W) := by
  by_cases hb : L < 0 ∨ 200 < L ∨ (m ≠ -1 ∧ (m < L ∨ 200 < m))
  · exact .inl fun W => new_bad1 q L m kind W hb
  · obtain ⟨l, rfl⟩ := Int.eq_ofNat_of_zero_le (show 0 ≤ L by omega)
    obtain ⟨T, S, hn⟩ : ∃ T S, (m = -1 ∧ T = l ∧ S = true) ∨ (m = (T : Int) ∧ l ≤ T ∧ T ≤ 200 ∧ S = false) := by
      by_cases h1 : m = -1
      · exact ⟨l, true, .inl ⟨h1, rfl, rfl⟩⟩
      · obtain ⟨T, rfl⟩ := Int.eq_ofNat_of_zero_le (show 0 ≤ m by omega)
        exact ⟨T, false, .inr ⟨rfl, by omega, by omega, rfl⟩⟩
    have hl : l ≤ 200 := by omega
    have hT : T ≤ 200 := by rcases hn with ⟨_, rfl, _⟩ | ⟨_, _, h, _⟩ <;> omega
    have hlT : l ≤ T := by rcases hn with ⟨_, rfl, _⟩ | ⟨_, h, _, _⟩ <;> omega
    by_cases k0 : kind = 0
    · subst k0
      exact .inr ⟨l, T, S, ⟨rfl, hl, hn⟩, hT, fun W => (new_ok q l T S m 0 _ W hl hn (keep0 l T S hlT hT) (bearsV l T S)).mono fun e w' h => h.mono fun _ _ _ _ _ => qk_v hT⟩
    · by_cases k1 : kind = 1
      · subst k1
        exact .inr ⟨l, T, S, ⟨rfl, hl, hn⟩, hT, fun W => (new_ok q l T S m 1 _ W hl hn (keep1 l T S hT) (bearsR l T S)).mono fun e w' h => h.mono fun _ _ _ _ _ => qk_r hT⟩
      · by_cases k2 : kind = 2 ∧ S = true
        · obtain ⟨rfl, rfl⟩ := k2
          rcases hn with ⟨rfl, rfl, _⟩ | ⟨_, _, _, h⟩
          · exact .inr ⟨T, T, true, ⟨rfl, hl, .inl ⟨rfl, rfl, rfl⟩⟩, hT, fun W => (new_ok q T T true (-1) 2 _ W hl (.inl ⟨rfl, rfl, rfl⟩) (keep2 T hT) (bearsS T)).mono fun e w' h => h.mono fun _ _ _ _ _ => qk_s hT⟩
          · cases h
        · exact .inl fun W => new_bad2 q l T S m kind W hl hn k0 k1 fun h => by
            cases S with
            | false => rfl
            | true => exact absurd ⟨h, rfl⟩ k2

def bd (bs : List Bool) (j : Nat) : Bool := bs.getD j false
/-- truths in memory -/
def Bls (w : World) (A : Option Addr) (bs : List Bool) : Prop :=
  0 < bs.length → ∃ b off, A = some ⟨b, off, none⟩ ∧ b < w.heap.size ∧ ∀ j, j < bs.length → w.cell? ⟨b, off + j, none⟩ = some (.bool (bd bs j))
theorem Bls.below {w w' : World} {A : Option Addr} {bs : List Bool} (h : Bls w A bs) (hb : Below w.heap.size w w') : Bls w' A bs := fun h0 => by
  obtain ⟨b, off, e, hlt, hc⟩ := h h0
  exact ⟨b, off, e, Nat.lt_of_lt_of_le hlt hb.size, fun j hj => (hb.cell (p := ⟨b, off + j, none⟩) hlt).trans (hc j hj)⟩

/-- the cells of a Sort -/
def srt (q : Nat → BitVec 64) (L m kind : Int) : Array Value := #[.int .u64 (K.uv (q 0)), .int .u64 (K.uv (q 1)), .int .u64 (K.uv (q 2)), .int .u64 (K.uv (q 3)), .int .i64 L, .int .i64 m, .int .i64 kind]
end Go.Proofs.Ytcognpfihojphaa
