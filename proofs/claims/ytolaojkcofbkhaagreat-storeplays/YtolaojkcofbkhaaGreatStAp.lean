import Derived.Test.YtolaojkcofbkhaaGreatApL
import Derived.Test.YtolaojkcofbkhaaGreatFrameT
import Derived.Test.YtolaojkcofbkhaaGreatStFirst
namespace Go.Proofs.YtolaojkcofbkhaaGreat
open Go.RowKit
def hcs (l : List Hc) : List Value := l.flatMap Hc.cells
theorem range9 {w : World} {b i : Nat} {o : OpT} (h : w.rangeAt b i o.cells) : w.cell? ⟨b, i, none⟩ = some (.int .i64 o.kind) ∧ w.cell? ⟨b, i + 1, none⟩ = some (.int .i64 o.i) ∧ w.cell? ⟨b, i + 2, none⟩ = some (.int .i64 o.fr) ∧ w.cell? ⟨b, i + 3, none⟩ = some (.slice o.LA o.Ln o.Lc) ∧ w.cell? ⟨b, i + 4, none⟩ = some (.slice o.BA o.Bn o.Bc) ∧ w.cell? ⟨b, i + 5, none⟩ = some (.slice o.KA o.Kn o.Kc) ∧ w.cell? ⟨b, i + 6, none⟩ = some (.int .i64 o.k.t) ∧ w.cell? ⟨b, i + 7, none⟩ = some (.int .i64 o.k.c) ∧ w.cell? ⟨b, i + 8, none⟩ = some (.int .i64 o.k.e) :=
 ⟨h 0 _ rfl, h 1 _ rfl, h 2 _ rfl, h 3 _ rfl, h 4 _ rfl, h 5 _ rfl, h 6 _ rfl, h 7 _ rfl, h 8 _ rfl⟩
theorem opB_cells {w : World} {b : Nat} {t : TypeId} {o : OpT} (h : Blk w b t #[.int .i64 (o).kind, .int .i64 (o).i, .int .i64 (o).fr, .slice (o).LA (o).Ln (o).Lc, .slice (o).BA (o).Bn (o).Bc, .slice (o).KA (o).Kn (o).Kc, .int .i64 (o).k.t, .int .i64 (o).k.c, .int .i64 (o).k.e]) : w.cell? ⟨b, 0, none⟩ = some (.int .i64 o.kind) ∧ w.cell? ⟨b, 1, none⟩ = some (.int .i64 o.i) ∧ w.cell? ⟨b, 2, none⟩ = some (.int .i64 o.fr) ∧ w.cell? ⟨b, 3, none⟩ = some (.slice o.LA o.Ln o.Lc) ∧ w.cell? ⟨b, 4, none⟩ = some (.slice o.BA o.Bn o.Bc) ∧ w.cell? ⟨b, 5, none⟩ = some (.slice o.KA o.Kn o.Kc) ∧ w.cell? ⟨b, 6, none⟩ = some (.int .i64 o.k.t) ∧ w.cell? ⟨b, 7, none⟩ = some (.int .i64 o.k.c) ∧ w.cell? ⟨b, 8, none⟩ = some (.int .i64 o.k.e) :=
 ⟨(h.cell 0).trans rfl, (h.cell 1).trans rfl, (h.cell 2).trans rfl, (h.cell 3).trans rfl, (h.cell 4).trans rfl, (h.cell 5).trans rfl, (h.cell 6).trans rfl, (h.cell 7).trans rfl, (h.cell 8).trans rfl⟩
theorem so_new {n : Nat} (h : 2 ≤ n) : soE (St.new n) Va.new ⟨0, 0⟩ = 0 ∧ soL (St.new n) Va.new ⟨0, 0⟩ = [] := by
 have e1 : gtE (St.new n) Va.new ⟨0, 0⟩ = 90 := if_pos rfl
 have hn : ¬ (St.new n).n < 2 := by show ¬ n < 2; omega
 unfold soE soL
 rw [if_neg hn, if_pos e1, if_pos e1]
 exact ⟨rfl, rfl⟩
end Go.Proofs.YtolaojkcofbkhaaGreat
