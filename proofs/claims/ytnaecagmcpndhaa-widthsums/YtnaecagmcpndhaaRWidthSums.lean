/- Of two terms one behind the other all is the sum, of one of both it is the lesser and the greater one (WidthSums): for every input, no condition. -/
import Derived.Test.YtnaecagmcpndhaaRW2
import Derived.Test.YtnaecagmcpndhaaX9a
import Derived.Test.YtnaecagmcpndhaaX9b
import Derived.Test.YtnaecagmcpndhaaX9c
import Derived.Test.YtnaecagmcpndhaaX9d
import Derived.Test.YtnaecagmcpndhaaX9e
import Derived.Test.YtnaecagmcpndhaaX9f
namespace Go.Proofs.Ytnaecagmcpndhaa
open Go.ChangeShapes Go.WideShapes Go.ChangeAt Go.RowKit

theorem sums_walk (t u : Tm) (d e : TD) (w : World) (ht : TR w t d) (hu : TR w u e) : Calls Try.prog 10 #[d.val, e.val] w (Tells w (.bool true)) := by
  cases hx : (spanT t).a <;> cases hy : (spanT u).a
  · exact sums_walk_a t u d e w ht hu hx hy
  · exact sums_walk_b t u d e w ht hu hx hy
  · exact sums_walk_c t u d e w ht hu hx hy
  · by_cases kt : (spanT t).m < 0
    · exact sums_walk_d t u d e w ht hu hx hy kt
    · by_cases ku : (spanT u).m < 0
      · exact sums_walk_e t u d e w ht hu hx hy kt ku
      · exact sums_walk_f t u d e w ht hu hx hy kt ku
set_option maxRecDepth 100000 in
theorem widthSums_lifted (os : Os) (started : os.Started) (H : Type) (enc : TypeId × Value → H) :
    ReturnsInHanded {} Try.checked os 10 .any (Rows.widthSumsSpec.pre6 enc Try.prog Try.f10 Rows.widthSumsRow.domain false) (Rows.widthSumsSpec.post enc Try.prog Try.f10 false true false false) := by
  refine returnsInHanded_of_change (C := Try.checked) ownK started (by kernel_rfl) Try.func10
    (ChangeSpec.witness6 (enc := enc) (C := Try.checked) false ⟨#[], #[.agg #[.int .i64 0, .int .u64 0, .int .u64 0, .int .u64 0, .int .u64 0, .int .i64 0, .int .i64 0, .slice none 0 0], .agg #[.int .i64 0, .int .u64 0, .int .u64 0, .int .u64 0, .int .u64 0, .int .i64 0, .int .i64 0, .slice none 0 0]], []⟩ 8 (by kernel_rfl) (by kernel_rfl) (by kernel_rfl) (by kernel_rfl)) ?_
  intro W base args ds gs before hval0 hW hcnd _
  have hval : ∀ (j : Nat) t v, Try.f10.params[j]? = some t → args[j]? = some v → Value.okWide Try.prog W .any base t v := hval0
  have hW' := hW
  obtain ⟨p, q, hA0, hV, rfl, hfz, hnd⟩ := hW
  have hA : DataW.TrodAll enc Try.prog W 0 (fun _ => true) true Try.f10.params.toList args.toList ds p := hA0
  rw [Try.params10] at hA hval
  obtain ⟨v0, vs0, d0, ds0, p0, q0, hargs, rfl, rfl, h0, r0⟩ := trodAll_cons hA
  obtain ⟨v1, vs1, d1, ds1, p1, q1, rfl, rfl, rfl, h1, r1⟩ := trodAll_cons r0
  obtain ⟨rfl, rfl, rfl⟩ := trodAll_nil r1
  obtain rfl : args = #[v0, v1] := by cases args; simp_all
  obtain ⟨rfl, rfl⟩ := trodVars_none hV
  obtain ⟨t0, x0, rfl, ht0⟩ := open_term (hval 0 29 v0 rfl rfl) h0
  have lt0 : ∀ x ∈ p0, x.block < W.heap.size := by obtain ⟨m, hm⟩ := h0; exact DataW.trod_lt m _ _ _ hm
  obtain ⟨t1, x1, rfl, ht1⟩ := open_term (hval 1 29 v1 rfl rfl) h1
  have lt1 : ∀ x ∈ p1, x.block < W.heap.size := by obtain ⟨m, hm⟩ := h1; exact DataW.trod_lt m _ _ _ hm
  clear hA0 hval0
  refine (sums_walk t0 t1 x0 x1 W ht0 ht1).mono fun e W' ⟨he, bel⟩ => ?_
  subst he
  exact ⟨_, rfl, _, _, _, [], _, [], hW', trodAll_mk1 (shut_bool Try.underlying4 _), (trodAll_cons_mk (Below.trod laidOutK (by kernel_rfl) (of_decide_eq_true (by kernel_rfl)) h0 bel lt0) (trodAll_cons_mk (Below.trod laidOutK (by kernel_rfl) (of_decide_eq_true (by kernel_rfl)) h1 bel lt1) trodAll_mk0)), rfl, bel.frame _, fun h => by cases h⟩

theorem widthSums_holds : Rows.WidthSumsSaid :=
  OpenClaim.holds_of_wide 10 Try.f10 rfl rfl rfl rfl rfl rfl rfl ⟨rfl, rfl, rfl, rfl, rfl⟩ rfl rfl rfl rfl rfl (by kernel_rfl) Try.func10 (by kernel_rfl)
    (of_decide_eq_true (by kernel_rfl)) (by unfold Func.isWrapper; rw [if_neg (of_decide_eq_false (by kernel_rfl))]; exact ⟨rfl, rfl⟩)
    (fun os started H enc _ => widthSums_lifted os started H enc)
#print axioms widthSums_holds
end Go.Proofs.Ytnaecagmcpndhaa
