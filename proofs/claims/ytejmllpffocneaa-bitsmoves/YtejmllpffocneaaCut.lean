/- s[k:h] of a row of truths, in one way. Nothing is assumed. -/
import Derived.Test.YtejmllpffocneaaBmG
namespace Go.Proofs.Ytejmllpffocneaa
open Go.RowKit

theorem Lst.cut {w : World} {lo hi n c k : Nat} {A : Option Addr} {l : List Value} (hr : Lst w lo hi A n l) (hk : k ≤ n) (hn : n ≤ c) : Lst w lo hi (if c = k then A else A.map (·.add k)) (n - k) (l.drop k) := by
  have hl := hr.1
  refine ⟨by rw [List.length_drop, hl], fun h0 => ?_⟩
  obtain ⟨g, off, rfl, h1, h2, hc⟩ := hr.2 (by omega)
  rw [if_neg (by omega)]
  simp only [Option.map_some, add_plain]
  refine ⟨g, off + k, rfl, h1, h2, fun j u hu => ?_⟩
  rw [List.getElem?_drop] at hu
  rw [Nat.add_assoc]
  exact hc _ u hu
theorem Lst.takeK {w : World} {lo hi n k : Nat} {A : Option Addr} {l : List Value} (h : Lst w lo hi A n l) (hk : k ≤ n) : Lst w lo hi A k (l.take k) := by
  have hl := h.1
  refine ⟨by rw [List.length_take, hl]; omega, fun hn => ?_⟩
  obtain ⟨g, off, e, h1, h2, hc⟩ := h.2 (by omega)
  refine ⟨g, off, e, h1, h2, fun j u hu => hc j u ?_⟩
  rw [List.getElem?_take] at hu
  split at hu
  · exact hu
  · cases hu
theorem Try.elemBl : Try.prog.underlying 39 = some (.slice (Try.prog.elem 39)) := by kernel_rfl
theorem Try.sizeBl (w : World) : (sizeOf (Try.prog.elem 39)).run Try.prog w = .ok 1 w := by kernel_rfl
theorem run_cutLb {w : World} {A : Option Addr} {n c k h : Nat} (h1 : k ≤ h) (h2 : h ≤ c) : (Instr.sliceAt 39 (.slice A n c) (some (.int .i64 (k : Int))) (some (.int .i64 (h : Int))) none).run Try.prog w = .ok (.slice (if c = k then A else A.map (·.add k)) (h - k) (c - k)) w := by
  rw [run_sliceAt_slice (h := Try.elemBl), run_slice_lh (ht := Try.elemBl) (h0 := by omega) (h1 := by omega) (h2 := by omega), Try.sizeBl]
  simp [Result.andThen, sliced]
theorem wpList_cutLb {w : World} {ops : Array Oper} {rest : List Oper} {op : Oper} {a : Act} {Q : Exit → Act → World → Prop} (hgd : op.guard = none) (s lo hi : Operand) (ho : op.op = .slice 39 s (some lo) (some hi) none) {A : Option Addr} {n c k h : Nat} {v u : Int}
    (hs : a.eval s = .slice A n c) (hk : a.eval lo = .int .i64 v) (hv : v = (k : Int)) (hh : a.eval hi = .int .i64 u) (hu : u = (h : Int)) (h1 : k ≤ h) (h2 : h ≤ n) (hnc : n ≤ c) {lo' hi' : Nat} {l : List Value} (hb : Lst w lo' hi' A n l)
    (hK : ∀ A', Lst w lo' hi' A' (h - k) ((l.drop k).take (h - k)) → wpList Try.prog ops Q rest (a.put op.dst (.slice A' (h - k) (c - k))) w) : wpList Try.prog ops Q (op :: rest) a w :=
  wpList_plain hgd fun K hK2 => by
    subst hv hu
    have hrun := run_cutLb (w := w) (A := A) (n := n) (c := c) h1 (Nat.le_trans h2 hnc)
    unfold Oper.wp
    simp only [execOp, ho, hs, hk, hh, Option.map_some, Option.map_none, Sem.run_bind, Sem.run_pure, hrun, Result.andThen_ok]
    exact hK2 _ _ (hK _ ((hb.cut (Nat.le_trans h1 h2) hnc).takeK (by omega)))
theorem Try.elemUb : Try.prog.underlying 24 = some (.slice (Try.prog.elem 24)) := by kernel_rfl
theorem Try.sizeUb (w : World) : (sizeOf (Try.prog.elem 24)).run Try.prog w = .ok 1 w := by kernel_rfl
theorem run_cutUb {w : World} {A : Option Addr} {n c k : Nat} (hkn : k ≤ n) : (Instr.sliceAt 24 (.slice A n c) (some (.int .i64 (k : Int))) none none).run Try.prog w = .ok (.slice (if c = k then A else A.map (·.add k)) (n - k) (c - k)) w := by
  rw [run_sliceAt_slice (h := Try.elemUb), run_slice_l (ht := Try.elemUb) (h0 := by omega) (h1 := by omega), Try.sizeUb]
  simp [Result.andThen, sliced]
/-- b[k:] of bytes, in one way. -/
theorem wpList_cutUb {w : World} {ops : Array Oper} {rest : List Oper} {op : Oper} {a : Act} {Q : Exit → Act → World → Prop} (hgd : op.guard = none) (s lo : Operand) (ho : op.op = .slice 24 s (some lo) none none) {A : Option Addr} {n c k : Nat} {v : Int}
    (hs : a.eval s = .slice A n c) (hk : a.eval lo = .int .i64 v) (hv : v = (k : Int)) (hkn : k ≤ n) (hnc : n ≤ c) {lo' hi' : Nat} {l : List UInt8} (hb : Bts w lo' hi' A n l)
    (h : ∀ A', Bts w lo' hi' A' (n - k) (l.drop k) → wpList Try.prog ops Q rest (a.put op.dst (.slice A' (n - k) (c - k))) w) : wpList Try.prog ops Q (op :: rest) a w :=
  wpList_plain hgd fun K hK => by
    subst hv
    have hrun := run_cutUb (w := w) (A := A) (n := n) (c := c) hkn
    have hcut : Lst w lo' hi' (if c = k then A else A.map (·.add k)) (n - k) (bs (l.drop k)) := by
      have := (hb.lst).cut hkn hnc
      rwa [show (bs l).drop k = bs (l.drop k) by simp [bs, List.map_drop]] at this
    unfold Oper.wp
    simp only [execOp, ho, hs, hk, Option.map_some, Option.map_none, Sem.run_bind, Sem.run_pure, hrun, Result.andThen_ok]
    exact hK _ _ (h _ hcut.bytes)
end Go.Proofs.Ytejmllpffocneaa
