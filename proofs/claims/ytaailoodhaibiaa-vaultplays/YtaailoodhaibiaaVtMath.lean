/- Plain mathematics of a vault, of no program: keys, what was sealed, which keys are destroyed, what a call answers. Nothing is assumed. -/
import Derived.Test.YtaailoodhaibiaaBase
namespace Go.Proofs.Ytaailoodhaibiaa

/-- A key: tenant, column, epoch. -/
structure Ky where
  t : Int
  c : Int
  e : Int
deriving DecidableEq
def Ky.wf (k : Ky) : Prop := (-9223372036854775808 ≤ k.t ∧ k.t ≤ 9223372036854775807) ∧ (-9223372036854775808 ≤ k.c ∧ k.c ≤ 9223372036854775807) ∧ (-9223372036854775808 ≤ k.e ∧ k.e ≤ 9223372036854775807)
/-- Something can be sealed with it. -/
def Ky.right (k : Ky) : Prop := 0 ≤ k.t ∧ 0 ≤ k.c ∧ 0 ≤ k.e
instance (k : Ky) : Decidable k.right := inferInstanceAs (Decidable (_ ∧ _))
theorem Ky.ext' {a b : Ky} (h1 : a.t = b.t) (h2 : a.c = b.c) (h3 : a.e = b.e) : a = b := by
  cases a; cases b; simp_all
/-- What was sealed: the key, the words beside, the bytes. -/
structure En where
  k : Ky
  b : List UInt8
  p : List UInt8
/-- A vault: what was sealed, which keys are destroyed. -/
structure Va where
  L : List En
  G : List Ky
def Va.new : Va := ⟨[], []⟩
def wipe (k : Ky) (x : En) : En := if x.k = k then ⟨k, [], []⟩ else x
theorem wipe_k (k : Ky) (x : En) : (wipe k x).k = x.k := by
  unfold wipe
  split
  · rename_i h; exact h.symm
  · rfl
def Va.destroy (s : Va) (k : Ky) : Va := ⟨s.L.map (wipe k), s.G ++ [k]⟩
def seE (s : Va) (k : Ky) (n : Nat) : Int := if ¬ k.right ∨ 65536 < n then 2 else if k ∈ s.G then 50 else 0
def seH (s : Va) (k : Ky) (n : Nat) : Nat := if ¬ k.right ∨ 65536 < n then 0 else if k ∈ s.G then 0 else s.L.length + 1
def seS (s : Va) (k : Ky) (b p : List UInt8) : Va := if ¬ k.right ∨ 65536 < p.length then s else if k ∈ s.G then s else ⟨s.L ++ [⟨k, b, p⟩], s.G⟩
/-- What stands behind a handle. -/
def behind (L : List En) (h : Nat) : Option En := if h = 0 then none else L[h - 1]?
def opX (s : Va) (k : Ky) (b : List UInt8) (h : Nat) : Option (List UInt8) := (behind s.L h).bind fun x => if x.k = k ∧ x.b = b then some x.p else none
def opE (s : Va) (k : Ky) (b : List UInt8) (h : Nat) : Int := if k ∈ s.G then 50 else if (opX s k b h).isSome then 0 else 51
def opB (s : Va) (k : Ky) (b : List UInt8) (h : Nat) : List UInt8 := if k ∈ s.G then [] else (opX s k b h).getD []
theorem seS_L (s : Va) (k : Ky) (b p : List UInt8) : (seS s k b p).L.length ≤ s.L.length + 1 ∧ (seS s k b p).G = s.G := by
  unfold seS
  split
  · exact ⟨by omega, rfl⟩
  · split
    · exact ⟨by omega, rfl⟩
    · exact ⟨by simp, rfl⟩
end Go.Proofs.Ytaailoodhaibiaa
