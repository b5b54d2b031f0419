/- Span: every term. -/
import Derived.Test.YtnaecagmcpndhaaW10
import Derived.Test.YtnaecagmcpndhaaW7
import Derived.Test.YtnaecagmcpndhaaW8
namespace Go.Proofs.Ytnaecagmcpndhaa
open Go.RowKit
theorem span_any : ∀ (t : Tm) (d : TD) (p : Nat) (w : World), TR w t d → Ok t → Fun w p 36 → Calls Try.prog 36 #[d.val, .pointer (some ⟨p, 0, none⟩)] w (Tells w (spanT t).val) := by
  intro t
  induction t using Tm.ind with
  | h op f lo hi ks ih =>
  intro d p w ht hok hF
  by_cases h5 : op = 1 ∨ op = 4 ∨ op = 5 ∨ op = 3 ∨ op = 2
  · exact span_leaf op f lo hi ks d p w ht h5
  by_cases h6 : op = 6
  · subst h6
    exact span_cat f lo hi ks d p w ht hok hF ih
  by_cases h7 : op = 7
  · subst h7
    exact span_alt f lo hi ks d p w ht hok hF ih
  by_cases h8 : op = 8 ∧ ks.length = 1
  · obtain ⟨rfl, h1⟩ := h8
    obtain ⟨kt, rfl⟩ := List.length_eq_one_iff.mp h1
    exact span_rep f lo hi kt d p w ht hok hF (ih kt (by simp))
  · exact span_other op f lo hi ks d p w ht (by omega) (fun a b => h8 ⟨a, b⟩)
end Go.Proofs.Ytnaecagmcpndhaa
