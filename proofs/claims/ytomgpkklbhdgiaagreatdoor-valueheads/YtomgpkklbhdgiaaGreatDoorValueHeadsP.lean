/- The statement ValueHeads, its card: for every input the law answers true, and each argument reads as it read before; the library's variables that its row lists hold what the program's own text lays (tied). -/
import Derived.Test.YtomgpkklbhdgiaaGreatDoorCards
import Derived.Test.YtomgpkklbhdgiaaGreatDoorTie
import Derived.Test.YtomgpkklbhdgiaaGreatDoorFlTie
import Derived.Test.YtomgpkklbhdgiaaGreatDoorValueHeadsW
import Derived.Test.YtomgpkklbhdgiaaGreatDoorFrameS
namespace Go.Proofs.YtomgpkklbhdgiaaGreatDoor
open Go.ChangeShapes Go.WideShapes Go.ChangeAt Go.RowKit Go.Joins
open Go.ChangeMaps (open_string shut_string)
set_option linter.unusedVariables false

set_option maxRecDepth 100000 in
theorem liftedValueHeads (os : Os) (started : os.Started) (H : Type) (enc : TypeId × Value → H) :
    ReturnsInHanded {} Tryz.checked os 9 .any (fun w args => (Rows.valueHeadsSpec.pre enc Tryz.prog Tryz.f9 Rows.valueHeadsRow.domain false w args ∧ laidMet Tryz.prog laidAll w) ∧ sizedMet enc Tryz.prog Tryz.f9 (OpenSpec.ofChange Rows.valueHeadsSpec) false w args) (Rows.valueHeadsSpec.post enc Tryz.prog Tryz.f9 false true false false) := by
  refine returnsInHanded_of_change_and (C := Tryz.checked) (X := fun w _ => laidMet Tryz.prog laidAll w) (fun _ _ _ hh h => h.of_heap hh) Tryz.own started (by kernel_rfl) Tryz.func9
    (ChangeSpec.witness_at (enc := enc) (C := Tryz.checked) (os := os) (X := fun w _ => laidMet Tryz.prog laidAll w) false (laidWorld os) #[.agg #[.int .i64 0, .int .i64 0, .string ByteArray.empty, .int .u64 0], .agg #[.int .i64 0, .int .i64 0, .string ByteArray.empty, .int .u64 0], .agg #[.int .u8 0, .int .u8 0]] 8 rfl (by kernel_rfl) (by kernel_rfl) (by kernel_rfl) (by kernel_rfl) (by kernel_rfl) (laid_met os _)) ?_
  intro W base args ds gs before hval0 hW _ _ hL _
  have hval : ∀ (j : Nat) t v, Tryz.f9.params[j]? = some t → args[j]? = some v → Value.okWide Tryz.prog W .any base t v := hval0
  have hW' := hW
  obtain ⟨p, q, hA0, hV, rfl, hfz, hnd⟩ := hW
  have hA : DataW.TrodAll enc Tryz.prog W 0 (fun _ => true) true Tryz.f9.params.toList args.toList ds p := hA0
  rw [Tryz.params9] at hA hval
  obtain ⟨v0, vs0, d0, ds0, p0, q0, hargs, rfl, rfl, h0, r0⟩ := trodAll_cons hA
  obtain ⟨v1, vs1, d1, ds1, p1, q1, rfl, rfl, rfl, h1, r1⟩ := trodAll_cons r0
  obtain ⟨v2, vs2, d2, ds2, p2, q2, rfl, rfl, rfl, h2, r2⟩ := trodAll_cons r1
  obtain ⟨rfl, rfl, rfl⟩ := trodAll_nil r2
  obtain rfl : args = #[v0, v1, v2] := by cases args; simp_all
  obtain ⟨rfl, rfl⟩ := trodVars_none hV
  have k0 := h0
  have lt0 : ∀ x ∈ p0, x.block < W.heap.size := by obtain ⟨m, hm⟩ := k0; exact DataW.trod_lt m _ _ _ hm
  have k1 := h1
  have lt1 : ∀ x ∈ p1, x.block < W.heap.size := by obtain ⟨m, hm⟩ := k1; exact DataW.trod_lt m _ _ _ hm
  have k2 := h2
  have lt2 : ∀ x ∈ p2, x.block < W.heap.size := by obtain ⟨m, hm⟩ := k2; exact DataW.trod_lt m _ _ _ hm
  obtain ⟨x0_0, x0_1, x0_2, x0_3, y0_0, y0_1, y0_2, y0_3, m0, rfl, rfl, rfl, e0_0, e0_1, e0_2, e0_3⟩ := open_agg4 Tryz.underlying25 (by kernel_rfl) (by kernel_rfl) (hval 0 25 v0 rfl rfl) h0
  obtain ⟨a0_0, q0_0, rfl, w0_0⟩ := DataW.trod_int Tryz.underlying22 e0_0
  injection q0_0 with q0_0 _
  subst q0_0
  obtain ⟨a0_1, q0_1, rfl, w0_1⟩ := DataW.trod_int Tryz.underlying3 e0_1
  injection q0_1 with q0_1 _
  subst q0_1
  obtain ⟨a0_2, q0_2, rfl, w0_2⟩ := DataW.trod_string Tryz.underlying9 e0_2
  injection q0_2 with q0_2 _
  subst q0_2
  obtain ⟨a0_3, q0_3, rfl, w0_3⟩ := DataW.trod_int Tryz.underlying23 e0_3
  injection q0_3 with q0_3 _
  subst q0_3
  obtain ⟨x1_0, x1_1, x1_2, x1_3, y1_0, y1_1, y1_2, y1_3, m1, rfl, rfl, rfl, e1_0, e1_1, e1_2, e1_3⟩ := open_agg4 Tryz.underlying25 (by kernel_rfl) (by kernel_rfl) (hval 1 25 v1 rfl rfl) h1
  obtain ⟨a1_0, q1_0, rfl, w1_0⟩ := DataW.trod_int Tryz.underlying22 e1_0
  injection q1_0 with q1_0 _
  subst q1_0
  obtain ⟨a1_1, q1_1, rfl, w1_1⟩ := DataW.trod_int Tryz.underlying3 e1_1
  injection q1_1 with q1_1 _
  subst q1_1
  obtain ⟨a1_2, q1_2, rfl, w1_2⟩ := DataW.trod_string Tryz.underlying9 e1_2
  injection q1_2 with q1_2 _
  subst q1_2
  obtain ⟨a1_3, q1_3, rfl, w1_3⟩ := DataW.trod_int Tryz.underlying23 e1_3
  injection q1_3 with q1_3 _
  subst q1_3
  obtain ⟨x2_0, x2_1, y2_0, y2_1, m2, rfl, rfl, rfl, e2_0, e2_1⟩ := open_arr2 Tryz.underlying52 (by kernel_rfl) (by kernel_rfl) (hval 2 52 v2 rfl rfl) h2
  obtain ⟨a2_0, q2_0, rfl, w2_0⟩ := DataW.trod_int Tryz.underlying5 e2_0
  injection q2_0 with q2_0 _
  subst q2_0
  obtain ⟨a2_1, q2_1, rfl, w2_1⟩ := DataW.trod_int Tryz.underlying5 e2_1
  injection q2_1 with q2_1 _
  subst q2_1
  clear hA0 hval0
  refine (walkValueHeads a0_0 a0_1 a0_2 a0_3 a1_0 a1_1 a1_2 a1_3 a2_0 a2_1 W w0_0 w0_1 w0_2 w0_3 w1_0 w1_1 w1_2 w1_3 w2_0 w2_1 (lw_of hL)).mono fun e W' ⟨he, bel⟩ => ?_
  subst he
  exact ⟨_, rfl, _, _, _, [], _, [], hW', trodAll_mk1 (shut_bool Tryz.underlying4 _), (trodAll_cons_mk (Below.trod Tryz.laidOut (by kernel_rfl) (of_decide_eq_true (by kernel_rfl)) k0 bel lt0) (trodAll_cons_mk (Below.trod Tryz.laidOut (by kernel_rfl) (of_decide_eq_true (by kernel_rfl)) k1 bel lt1) (trodAll_cons_mk (Below.trod Tryz.laidOut (by kernel_rfl) (of_decide_eq_true (by kernel_rfl)) k2 bel lt2) trodAll_mk0))), rfl, bel.frame _, fun h => by cases h⟩

theorem overValueHeads : Rows.valueHeadsRow.holds Tryz.pinned (OpenSpec.ofChange Rows.valueHeadsSpec) :=
  OpenClaim.holds_of_wide 9 Tryz.f9 rfl rfl rfl rfl rfl rfl rfl ⟨rfl, rfl, rfl, rfl, rfl⟩ rfl rfl rfl rfl rfl (by kernel_rfl) Tryz.func9 (by kernel_rfl)
    (of_decide_eq_true (by kernel_rfl)) (by unfold Func.isWrapper; first | (rw [if_pos (by decide +kernel)]; kernel_rfl) | (rw [if_neg (by decide +kernel)]; exact ⟨rfl, rfl⟩))
    (fun os started H enc _ => liftedValueHeads os started H enc)

theorem plainValueHeads (f : FuncId) (fn : Func) (hf : Tryz.pinned.checked.prog.funcNamed "strongroom/strongroomlaw03.ValueHeads" = some f) (hfn : Tryz.pinned.checked.prog.funcs[f]? = some fn) :
    true = Tryz.pinned.checked.prog.looks [] ∧ ∀ (j : Nat) t, fn.params[j]? = some t → Tryz.pinned.checked.prog.wantsStandIn t = false := by
  obtain rfl : f = 9 := Option.some.inj ((show Tryz.prog.funcNamed "strongroom/strongroomlaw03.ValueHeads" = some 9 by kernel_rfl).symm.trans hf) |>.symm
  obtain rfl : fn = Tryz.f9 := (Option.some.inj (Tryz.func9.symm.trans hfn)).symm
  refine ⟨by kernel_rfl, fun j t ht => ?_⟩
  rw [Tryz.params9] at ht
  have hm := Array.mem_of_getElem? ht
  have ht' : t = 25 ∨ t = 25 ∨ t = 52 := by simpa [or_assoc] using hm
  rcases ht' with rfl | rfl | rfl
  · exact (show Tryz.prog.wantsStandIn 25 = false by kernel_rfl)
  · exact (show Tryz.prog.wantsStandIn 25 = false by kernel_rfl)
  · exact (show Tryz.prog.wantsStandIn 52 = false by kernel_rfl)
theorem provedValueHeads : Rows.ValueHeadsCardSaid :=
  Claim7.holds_tied_plain_at .later [] _ _ _ _ overValueHeads (fun _ h => by cases h) (by kernel_rfl) (fun _ h => by cases h) valueHeads_row_tie rfl ⟨rfl, rfl⟩ (by kernel_rfl) rfl plainValueHeads (by kernel_rfl)
#print axioms provedValueHeads
end Go.Proofs.YtomgpkklbhdgiaaGreatDoor
