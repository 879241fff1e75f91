import Derived.Test.YtolaojkcofbkhaaGreatMemO
namespace Go.Proofs.YtolaojkcofbkhaaGreat
open Go.RowKit
theorem run_copyN (w : World) (ty : TypeId) (b cap : Nat) (A : Option Addr) (n c lo hi : Nat) (l : List UInt8) (hr : Bts w lo hi A n l) (ht : w.there b 0 n) :
 (Builtin.copy_ #[51, 51] ty #[.slice (some ⟨b, 0, none⟩) n cap, .slice A n c]).run Tryz.prog w = .ok (.int .i64 (n : Int)) (w.setCells b 0 (bs l)) := by
 have hi1 : (Tryz.prog.info? 5).map (·.size) = some 1 := by kernel_rfl
 rcases Nat.eq_zero_or_pos n with h0 | h0
 · subst h0
   have hl : l = [] := List.eq_nil_of_length_eq_zero hr.1
   subst hl
   exact run_copy_none w 51 51 ty 5 _ _ 0 cap 0 c Tryz.underlying51 hi1 (by decide)
 · obtain ⟨g, off, rfl, _, _, hc⟩ := hr.2 h0
   have hlen : (bs l).length = n := by rw [bs_len]; exact hr.1
   have := run_copy_cells (P := Tryz.prog) w 51 51 ty 5 b 0 n cap ⟨g, off, none⟩ n c (bs l) Tryz.underlying51 hi1 (by rw [hlen]; exact (Nat.min_self n).symm) (fun j v hv => by rw [add_plain]; exact hc j v hv)
    (fun j hj => (ht j (by omega)).1) (fun j hj => (ht j (by omega)).2) (bs_one l)
   rw [hlen] at this
   exact this
end Go.Proofs.YtolaojkcofbkhaaGreat
