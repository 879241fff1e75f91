import Derived.Test.YtolaojkcofbkhaaGreatPkMath
import Derived.Test.YtolaojkcofbkhaaGreatDvMath
import Derived.Test.YtolaojkcofbkhaaGreatVtA
namespace Go.Proofs.YtolaojkcofbkhaaGreat
def i64ok (x : Int) : Prop := -9223372036854775808 ≤ x ∧ x ≤ 9223372036854775807
structure Pg where
 k : Ky
 id : Int
 ver : Int
deriving DecidableEq
def Pg.wf (p : Pg) : Prop := p.k.wf ∧ i64ok p.id ∧ i64ok p.ver
def num (x : Int) : List UInt8 := nat (fold x)
def besd (p : Pg) (b : Int) : List UInt8 := num p.k.t ++ num p.k.c ++ num p.k.e ++ num p.id ++ num p.ver ++ num b
theorem num_len {x : Int} (h : i64ok x) : (num x).length ≤ 10 := nat_len_u64 (fold_lt h.1 h.2)
def le : Nat → Nat → List UInt8
 | 0, _ => []
 | n + 1, h => UInt8.ofNat (h % 256) :: le n (h / 256)
def le8 (h : Nat) : List UInt8 := le 8 h
theorem le_len : ∀ (n h : Nat), (le n h).length = n
 | 0, _ => rfl
 | n + 1, h => by simp [le, le_len n]
def lev : List UInt8 → Nat
 | [] => 0
 | b :: r => b.toNat + 256 * lev r
theorem lev_lt : ∀ (l : List UInt8), lev l < 256 ^ l.length
 | [] => by simp [lev]
 | b :: r => by
  have := lev_lt r
  have := b.toNat_lt
  simp only [lev, List.length_cons, Nat.pow_succ]
  omega
def hOf (l : List UInt8) : Nat := if l.length = 16 ∧ l.drop 8 = List.replicate 8 0 then lev (l.take 8) else 0
theorem hOf_lt (l : List UInt8) : hOf l < 18446744073709551616 := by
 unfold hOf
 split
 · rename_i h
   have := lev_lt (l.take 8)
   rw [List.length_take, show min 8 l.length = 8 by omega] at this
   exact this
 · decide
theorem hOf_len {l : List UInt8} (h : l.length ≠ 16) : hOf l = 0 := by unfold hOf; rw [if_neg fun e => h e.1]
end Go.Proofs.YtolaojkcofbkhaaGreat
