/- Contracts in the form that the laws with the document's answers take. -/
import Derived.Test.YtngblecgikhgdaaDoorV4
import Derived.Test.YtngblecgikhgdaaDoorL2
import Derived.Laws.AppendOwnNone
namespace Go.Proofs.YtngblecgikhgdaaDoor
open Go.RowKit

theorem rget_no (A : Option Addr) (c : Nat) (xs : List (BitVec 64)) (i : Int) (w : World) (hi : i < 0) :
    Calls Tryd.prog 25 #[.slice A xs.length c, .int .i64 i] w fun e w' => e = .returned (.bool false) ∧ w = w' := by
  have d0 : decide (i < 0) = true := by simp; omega
  go_enter Tryd.func25, Tryd.ntmps25
  go_wp2
  go_ret
  exact ⟨rfl, rfl⟩
theorem rget_v (A : Option Addr) (c : Nat) (xs : List (BitVec 64)) (i : Int) (b : Bool) (w : World) (hx : U64s w A xs) (lx : xs.length ≤ 35184372088832) (hi : i ≤ 9223372036854775807) (hb : (decide (0 ≤ i) && bit xs i.toNat) = b) :
    Calls Tryd.prog 25 #[.slice A xs.length c, .int .i64 i] w fun e w' => e = .returned (.bool b) ∧ w = w' := by
  subst hb
  by_cases h0 : 0 ≤ i
  · obtain ⟨m, rfl⟩ := Int.eq_ofNat_of_zero_le h0
    rw [decide_eq_true h0, Int.toNat_natCast, Bool.true_and]
    exact rget_any A c m xs w hx lx (by omega)
  · rw [decide_eq_false h0, Bool.false_and]
    exact rget_no A c xs i w (by omega)
theorem up_no_b (A : Option Addr) (c : Nat) (xs : List (BitVec 64)) (n : Int) (w : World) (hn : n < 0 ∨ 65536 < n) :
    Calls Tryd.prog 29 #[.slice A xs.length c, .int .i64 n] w fun e w' => e = .returned (.tuple #[.slice none 0 0, .int .i64 2]) ∧ Below w.heap.size w w' := by
  refine (up_no A c xs n w hn).mono ?_
  rintro e w' ⟨rfl, rfl⟩
  exact ⟨rfl, Below.refl _ _⟩
theorem rup_i (A : Option Addr) (c : Nat) (n : Int) (xs : List (BitVec 64)) (w : World) (hx : U64s w A xs) (lx : xs.length ≤ 40) (h0 : 0 ≤ n) (hn : n ≤ 65536) :
    Calls Tryd.prog 32 #[.slice A xs.length c, .int .i64 n] w (GivesP w (Is fun j => decide (n ≤ (j : Int)) && bit xs (j - n.toNat))) := by
  obtain ⟨m, rfl⟩ := Int.eq_ofNat_of_zero_le h0
  have e : (fun j => decide (m ≤ j) && bit xs (j - m)) = (fun j : Nat => decide ((m : Int) ≤ (j : Int)) && bit xs (j - (m : Int).toNat)) := by
    funext j; congr 1; rw [Bool.eq_iff_iff]; simp
  rw [← e]
  exact rup_any A c m xs w hx lx (by omega)

/-- a new list of numbers of which P is known -/
def GivesIP (w : World) (P : List Int → Prop) (e : Ending) (w' : World) : Prop :=
  ∃ zs A c, e = .returned (.slice A zs.length c) ∧ zs.length ≤ 35184372088832 ∧ I64s w' A zs ∧ Below w.heap.size w w' ∧ P zs
theorem list_p (A : Option Addr) (c : Nat) (xs : List (BitVec 64)) (w : World) (hx : U64s w A xs) (hT : Tab w) (hw0 : 0 < w.heap.size) (lx : xs.length ≤ 40) :
    Calls Tryd.prog 33 #[.slice A xs.length c] w (GivesIP w fun zs => zs = ints (places xs (64 * xs.length))) := by
  refine (list_any A c xs w hx hT hw0 (by omega)).mono ?_
  rintro e w' ⟨A2, c2, h1, h2, _, h3⟩
  have := places_le xs (64 * xs.length)
  exact ⟨_, A2, c2, h1, by rw [len_ints]; omega, h2, h3, rfl⟩
theorem rlist_p (A : Option Addr) (c : Nat) (xs : List (BitVec 64)) (w : World) (hx : U64s w A xs) (lx : xs.length ≤ 40) :
    Calls Tryd.prog 36 #[.slice A xs.length c] w (GivesIP w fun zs => zs = ints (places xs (64 * xs.length))) := by
  refine (rlist_any A c xs w hx lx).mono ?_
  rintro e w' ⟨A2, c2, h1, h2, _, h3⟩
  have := places_le xs (64 * xs.length)
  exact ⟨_, A2, c2, h1, by rw [len_ints]; omega, h2, h3, rfl⟩
theorem sameI_p (A B : Option Addr) (c d : Nat) (xs ys : List Int) (w : World) (hx : I64s w A xs) (hy : I64s w B ys) (lx : xs.length ≤ 35184372088832) (h : xs = ys) :
    Calls Tryd.prog 35 #[.slice A xs.length c, .slice B ys.length d] w fun e w' => e = .returned (.bool true) ∧ Below w.heap.size w w' := by
  subst h; exact sameI_b A B c d xs w hx hy lx
theorem of_p (A : Option Addr) (c : Nat) (zs : List Int) (w : World) (hx : I64s w A zs) (lx : zs.length ≤ 35184372088832) (hgood : ∀ j, j < zs.length → Pl zs j) :
    Calls Tryd.prog 34 #[.slice A zs.length c] w (GivesOkP w (Is (ofB zs zs.length))) := by
  have hl := topw_le zs zs.length hgood
  exact (of_ok A c zs w hx lx hgood).mono (givesOk_p (by rw [len_ofv]; omega) ⟨can_ofv zs, bit_ofv zs⟩)
theorem of_bad_b (A : Option Addr) (c m : Nat) (zs : List Int) (w : World) (hx : I64s w A zs) (lx : zs.length ≤ 35184372088832) (hm : m < zs.length) (hbad : ¬ Pl zs m) (hgood : ∀ j, j < m → Pl zs j) :
    Calls Tryd.prog 34 #[.slice A zs.length c] w fun e w' => e = .returned (.tuple #[.slice none 0 0, .int .i64 2]) ∧ Below w.heap.size w w' := by
  refine (of_bad A c m zs w hx lx hm hbad hgood).mono ?_
  rintro e w' ⟨rfl, rfl⟩
  exact ⟨rfl, Below.refl _ _⟩

theorem places_pl (xs : List (BitVec 64)) (n : Nat) (hn : n ≤ 65536) : ∀ j, j < (ints (places xs n)).length → Pl (ints (places xs n)) j := by
  intro j hj
  rw [len_ints] at hj
  have hm : (places xs n)[j] ∈ places xs n := List.getElem_mem hj
  have hr : (places xs n)[j] < n := by
    unfold places at hm
    exact List.mem_range.1 (List.mem_filter.1 hm).1
  unfold Pl zd ints
  simp only [List.getD, List.getElem?_map, List.getElem?_eq_getElem hj, Option.map_some, Option.getD_some]
  omega
theorem ofB_places (xs : List (BitVec 64)) (i : Nat) : ofB (ints (places xs (64 * xs.length))) (ints (places xs (64 * xs.length))).length i = bit xs i := by
  rw [len_ints]
  unfold ofB
  rw [Bool.eq_iff_iff, decide_eq_true_eq]
  have hnz : ∀ j (hj : j < (places xs (64 * xs.length)).length), nz (ints (places xs (64 * xs.length))) j = (places xs (64 * xs.length))[j] := by
    intro j hj
    unfold nz zd ints
    simp only [List.getD, List.getElem?_map, List.getElem?_eq_getElem hj, Option.map_some, Option.getD_some, Int.toNat_natCast]
  constructor
  · rintro ⟨j, hj, e⟩
    rw [hnz j hj] at e
    have hm : (places xs (64 * xs.length))[j] ∈ places xs (64 * xs.length) := List.getElem_mem hj
    rw [e] at hm
    unfold places at hm
    exact (List.mem_filter.1 hm).2
  · intro h
    have hi : i < 64 * xs.length := by
      rcases Nat.lt_or_ge i (64 * xs.length) with h1 | h1
      · exact h1
      · rw [bit_big xs i h1] at h; cases h
    have hm : i ∈ places xs (64 * xs.length) := by
      unfold places
      exact List.mem_filter.2 ⟨List.mem_range.2 hi, h⟩
    obtain ⟨j, hj, e⟩ := List.getElem_of_mem hm
    exact ⟨j, hj, by rw [hnz j hj, e]⟩
theorem places_cnt (xs : List (BitVec 64)) : (ints (places xs (64 * xs.length))).length = cnt xs := by
  rw [len_ints]; unfold places cnt; rw [List.countP_eq_length_filter]

/-- each number is a place, or there is a first one that isn't -/
theorem pl_cases (zs : List Int) : ∀ n, (∀ j, j < n → Pl zs j) ∨ ∃ m, m < n ∧ ¬ Pl zs m ∧ ∀ j, j < m → Pl zs j
  | 0 => .inl fun j hj => by omega
  | n + 1 => by
    rcases pl_cases zs n with h | ⟨m, h1, h2, h3⟩
    · by_cases hp : Pl zs n
      · exact .inl fun j hj => by
          by_cases e : j = n
          · subst e; exact hp
          · exact h j (by omega)
      · exact .inr ⟨n, by omega, hp, h⟩
    · exact .inr ⟨m, by omega, h2, h3⟩

/-- the numbers as cells -/
def icells (zs : List Int) : List Value := zs.map (Value.int .i64)
theorem wpList_copyI {ops : Array Oper} {rest : List Oper} {o : Oper} {a : Act} {Q : Exit → Act → World → Prop} {w0 : World} (hgd : o.guard = none) (s x : Operand)
    (ho : o.op = .call { callee := .builtin .append, args := #[s, x], argTypes := #[35, 35] }) (A : Option Addr) (c : Nat) (zs : List Int)
    (hs : a.eval s = .slice (some ⟨w0.heap.size, 0, none⟩) 0 0) (hx : a.eval x = .slice A zs.length c) (hz : I64s w0 A zs) (hA : A = none → c = 0 ∧ zs.length = 0) (lx : zs.length ≤ 100)
    (h : ∀ A' c' w', I64s w' A' zs → Below w0.heap.size w0 w' → wpList Tryd.prog ops Q rest (a.put o.dst (.slice A' zs.length c')) w') :
    wpList Tryd.prog ops Q (o :: rest) a (w0.alloc (.cells #[] 3)) := by
  obtain ⟨i0, hi0, hz0, hz1, hz2⟩ := info_parts Tryd.info3
  have ho0 : (w0.alloc (.cells #[] 3)).ownsRow w0.heap.size 3 1 (.slice (some ⟨w0.heap.size, 0, none⟩) 0 0) 0 [] :=
    World.ownsRow_made w0 #[] 0 (Nat.le_refl _) (by unfold maxLen; omega) rfl
  have hb0 := below_alloc w0 (.cells #[] 3)
  rcases A with _ | ad
  · obtain ⟨rfl, h0⟩ := hA rfl
    rw [h0] at hx
    refine wpList_append_own_none hgd s x 35 ho w0.heap.size 3 i0 1 Tryd.underlying35 hi0 _ 0 [] hs ho0 hx ?_
    have := h (some ⟨w0.heap.size, 0, none⟩) 0 _ (fun h => by omega) hb0
    rw [h0] at this
    exact this
  · have hsrc : ∀ j u, (icells zs)[j]? = some u → (w0.alloc (.cells #[] 3)).cell? (ad.add j) = some u := by
      intro j u hu
      have hj : j < zs.length := by
        rcases Nat.lt_or_ge j zs.length with h | h
        · exact h
        · rw [List.getElem?_eq_none (by simp [icells]; omega)] at hu; cases hu
      obtain ⟨b, off, e, _, hc⟩ := (hz.below hb0) (by omega)
      injection e with e
      subst e
      have e2 : (⟨b, off, none⟩ : Addr).add j = ⟨b, off + j, none⟩ := by unfold Addr.add; split <;> simp_all
      rw [e2, hc j hj]
      simp [icells, hj] at hu
      rw [← hu]
      simp [zd, List.getD, hj]
    refine wpList_append_own _ hgd s x 35 ho w0.heap.size 3 i0 (.int .i64 0) 1 8 Tryd.underlying35 hi0 hz0 hz1 hz2 rfl (by decide) _ 0 [] hs ho0 ad zs.length c (icells zs) hx (by simp [icells]) hsrc ?_ (by unfold maxLen; omega) (by omega) (by simp) ?_
    · intro u hu
      simp [icells] at hu
      obtain ⟨z, _, rfl⟩ := hu
      rfl
    · intro v' w' hown hgrow _
      have hb := hb0.grown hgrow (by simp) (fun k hk => by simp [Value.ownBlock] at hk; omega)
      simp only [Nat.zero_add, List.nil_append] at hown
      rcases hown.2 with ⟨hv, hn⟩ | ⟨g, cap, cur, hv, hg, hh, _⟩
      · rw [hv]
        have := h none 0 w' (fun h => by omega) hb
        rw [hn] at this
        exact this
      · rw [hv] at hown ⊢
        refine h (some ⟨g, 0, none⟩) cap w' (fun h0 => ⟨g, 0, rfl, ?_, fun j hj => ?_⟩) hb
        · exact (hown.lt g rfl).2
        · rw [Nat.zero_add, hown.cellAt j (by omega)]
          simp [icells, zd, List.getD, hj]
end Go.Proofs.YtngblecgikhgdaaDoor
