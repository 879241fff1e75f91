import Derived.Test.YtolaojkcofbkhaaGreatBase
namespace Go.Proofs.YtolaojkcofbkhaaGreat
open Go.RowKit
theorem kmod (i : Int) (m : Nat) (hm : 0 < m) (hm2 : m ≤ 1000) : ∃ k : Nat, k < m ∧ wrap64 ((IntKind.u64.wrap i).tmod (m : Int)) = (k : Int) := by
 have h0 : 0 ≤ IntKind.u64.wrap i := by rw [IntKind.wrap_u64]; omega
 have h1 : (IntKind.u64.wrap i).tmod (m : Int) = (IntKind.u64.wrap i) % (m : Int) := Int.tmod_eq_emod_of_nonneg h0
 have h2 : 0 ≤ (IntKind.u64.wrap i) % (m : Int) := Int.emod_nonneg _ (by omega)
 have h3 : (IntKind.u64.wrap i) % (m : Int) < (m : Int) := Int.emod_lt_of_pos _ (by omega)
 refine ⟨((IntKind.u64.wrap i) % (m : Int)).toNat, by omega, ?_⟩
 rw [h1]
 unfold wrap64
 omega
theorem kmod0 (i : Int) (m : Nat) (hm : 0 < m) : ∃ k : Nat, k < m ∧ (IntKind.u64.wrap i).tmod (m : Int) = (k : Int) := by
 have h0 : 0 ≤ IntKind.u64.wrap i := by rw [IntKind.wrap_u64]; omega
 have h1 : (IntKind.u64.wrap i).tmod (m : Int) = (IntKind.u64.wrap i) % (m : Int) := Int.tmod_eq_emod_of_nonneg h0
 have h2 : 0 ≤ (IntKind.u64.wrap i) % (m : Int) := Int.emod_nonneg _ (by omega)
 have h3 : (IntKind.u64.wrap i) % (m : Int) < (m : Int) := Int.emod_lt_of_pos _ (by omega)
 exact ⟨((IntKind.u64.wrap i) % (m : Int)).toNat, by omega, by rw [h1]; omega⟩
end Go.Proofs.YtolaojkcofbkhaaGreat
