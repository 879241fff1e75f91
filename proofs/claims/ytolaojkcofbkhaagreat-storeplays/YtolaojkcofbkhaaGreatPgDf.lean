import Derived.Test.YtolaojkcofbkhaaGreatPgMath
import Derived.Test.YtolaojkcofbkhaaGreatObDv
namespace Go.Proofs.YtolaojkcofbkhaaGreat
open Go.RowKit
instance (d : St) (i : Int) : Decidable (i < 0 ∨ (d.n : Int) ≤ i) := inferInstance
def prE (d : St) (v : Va) (i : Int) (p : Pg) : Int := if rdE d i ≠ 0 then rdE d i else if hOf (rdB d i) = 0 then 51 else opE v p.k (besd p i) (hOf (rdB d i))
def prB (d : St) (v : Va) (i : Int) (p : Pg) : List UInt8 := if rdE d i ≠ 0 then [] else if hOf (rdB d i) = 0 then [] else opB v p.k (besd p i) (hOf (rdB d i))
def pwE (d : St) (v : Va) (i : Int) (p : Pg) (n : Nat) : Int := if i < 0 ∨ (d.n : Int) ≤ i then 2 else if seE v p.k n ≠ 0 then seE v p.k n else wrE d i 8
def pwD (d : St) (v : Va) (i : Int) (p : Pg) (n : Nat) : St := if i < 0 ∨ (d.n : Int) ≤ i then d else if seE v p.k n ≠ 0 then d else wrS d i (le8 (seH v p.k n))
def pwV (d : St) (v : Va) (i : Int) (p : Pg) (l : List UInt8) : Va := if i < 0 ∨ (d.n : Int) ≤ i then v else seS v p.k (besd p i) l
theorem seH_lt {v : Va} {k : Ky} {n : Nat} (h : v.L.length ≤ 1000000) : seH v k n < 18446744073709551616 := by
 unfold seH
 split
 · omega
 · split <;> omega
theorem pwD_n (d : St) (v : Va) (i : Int) (p : Pg) (n : Nat) : (pwD d v i p n).n = d.n := by
 unfold pwD
 split
 · rfl
 · split
   · rfl
   · exact wrS_n _ _ _
theorem pwD_W (d : St) (v : Va) (i : Int) (p : Pg) (n : Nat) : (pwD d v i p n).W.length ≤ d.W.length + 1 := by
 unfold pwD
 split
 · omega
 · split
   · omega
   · exact wrS_W _ _ _
theorem pwV_L (d : St) (v : Va) (i : Int) (p : Pg) (l : List UInt8) : (pwV d v i p l).L.length ≤ v.L.length + 1 ∧ (pwV d v i p l).G = v.G := by
 unfold pwV
 split
 · exact ⟨by omega, rfl⟩
 · exact seS_L _ _ _ _
theorem rdB_err {d : St} {i : Int} (h : rdE d i ≠ 0) : rdB d i = [] := by
 unfold rdE at h
 unfold rdB
 by_cases hb : bad d i 0
 · rw [if_pos (.inl hb)]
 · rw [if_neg hb] at h
   by_cases ho : d.lim = some 0
   · rw [if_pos (.inr ho)]
   · rw [if_neg ho] at h; exact absurd rfl h
def PgB (w : World) (b : Nat) (p : Pg) : Prop := Blk w b 88 #[.int .i64 p.k.t, .int .i64 p.k.c, .int .i64 p.k.e, .int .i64 p.id, .int .i64 p.ver]
theorem pgB_cells {w : World} {b : Nat} {p : Pg} (h : PgB w b p) : w.cell? ⟨b, 0, none⟩ = some (.int .i64 p.k.t) ∧ w.cell? ⟨b, 1, none⟩ = some (.int .i64 p.k.c) ∧ w.cell? ⟨b, 2, none⟩ = some (.int .i64 p.k.e) ∧ w.cell? ⟨b, 3, none⟩ = some (.int .i64 p.id) ∧ w.cell? ⟨b, 4, none⟩ = some (.int .i64 p.ver) :=
 ⟨(Blk.cell h 0).trans rfl, (Blk.cell h 1).trans rfl, (Blk.cell h 2).trans rfl, (Blk.cell h 3).trans rfl, (Blk.cell h 4).trans rfl⟩
theorem PgB.below {w w' : World} {b : Nat} {p : Pg} (h : PgB w b p) {B : Nat} (hb : Below B w w') (hB : b < B) : PgB w' b p := Blk.keep h (hb.block b hB)
theorem pgB_drew {w : World} {b : Nat} {p : Pg} (h : PgB w b p) : PgB w.drew b p := h
end Go.Proofs.YtolaojkcofbkhaaGreat
