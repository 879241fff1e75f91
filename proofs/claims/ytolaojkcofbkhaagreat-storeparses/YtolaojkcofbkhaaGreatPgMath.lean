/- Plain mathematics of pages, of no program: what stands beside a page, the bytes of a handle, what a block's bytes have for a handle. Nothing is assumed. -/
import Derived.Test.YtolaojkcofbkhaaGreatPkMath
import Derived.Test.YtolaojkcofbkhaaGreatDvMath
import Derived.Test.YtolaojkcofbkhaaGreatVtA
namespace Go.Proofs.YtolaojkcofbkhaaGreat

def i64ok (x : Int) : Prop := -9223372036854775808 ≤ x ∧ x ≤ 9223372036854775807
/-- A page: its key, its id, its version. -/
structure Pg where
  k : Ky
  id : Int
  ver : Int
deriving DecidableEq
def Pg.wf (p : Pg) : Prop := p.k.wf ∧ i64ok p.id ∧ i64ok p.ver
def num (x : Int) : List UInt8 := nat (fold x)
/-- What stands beside a page on a block. -/
def besd (p : Pg) (b : Int) : List UInt8 := num p.k.t ++ num p.k.c ++ num p.k.e ++ num p.id ++ num p.ver ++ num b
theorem num_len {x : Int} (h : i64ok x) : (num x).length ≤ 10 := nat_len_u64 (fold_lt h.1 h.2)
theorem besd_len {p : Pg} {b : Int} (hp : p.wf) (hb : i64ok b) : (besd p b).length ≤ 60 := by
  have h1 := num_len hp.1.1
  have h2 := num_len hp.1.2.1
  have h3 := num_len hp.1.2.2
  have h4 := num_len hp.2.1
  have h5 := num_len hp.2.2
  have h6 := num_len hb
  simp only [besd, List.length_append]
  omega
theorem nat_cut {a b : Nat} {r s : List UInt8} (ha : a < 18446744073709551616) (hb : b < 18446744073709551616) (h : nat a ++ r = nat b ++ s) : a = b ∧ r = s := by
  have h1 := rd_nat a r ha
  have h2 := rd_nat b s hb
  rw [h, h2] at h1
  simp only [Prod.mk.injEq] at h1
  obtain ⟨rfl, _⟩ := h1
  exact ⟨rfl, List.append_cancel_left h⟩
theorem num_cut {x y : Int} {r s : List UInt8} (hx : i64ok x) (hy : i64ok y) (h : num x ++ r = num y ++ s) : x = y ∧ r = s := by
  obtain ⟨h1, h2⟩ := nat_cut (fold_lt hx.1 hx.2) (fold_lt hy.1 hy.2) h
  exact ⟨by rw [← unfold_fold x, h1, unfold_fold], h2⟩
theorem besd_inj {p q : Pg} {a b : Int} (hp : p.wf) (hq : q.wf) (ha : i64ok a) (hb : i64ok b) (h : besd p a = besd q b) : p = q ∧ a = b := by
  unfold besd at h
  simp only [List.append_assoc] at h
  obtain ⟨h1, h⟩ := num_cut hp.1.1 hq.1.1 h
  obtain ⟨h2, h⟩ := num_cut hp.1.2.1 hq.1.2.1 h
  obtain ⟨h3, h⟩ := num_cut hp.1.2.2 hq.1.2.2 h
  obtain ⟨h4, h⟩ := num_cut hp.2.1 hq.2.1 h
  obtain ⟨h5, h⟩ := num_cut hp.2.2 hq.2.2 h
  obtain ⟨h6, _⟩ := num_cut (r := []) (s := []) ha hb (by simpa using h)
  obtain ⟨pk, pi, pv⟩ := p
  obtain ⟨qk, qi, qv⟩ := q
  have hk : pk = qk := Ky.ext' h1 h2 h3
  have hi : pi = qi := h4
  have hv : pv = qv := h5
  subst hk hi hv
  exact ⟨rfl, h6⟩

/-- n bytes of a number, the lowest first. -/
def le : Nat → Nat → List UInt8
  | 0, _ => []
  | n + 1, h => UInt8.ofNat (h % 256) :: le n (h / 256)
def le8 (h : Nat) : List UInt8 := le 8 h
theorem le_len : ∀ (n h : Nat), (le n h).length = n
  | 0, _ => rfl
  | n + 1, h => by simp [le, le_len n]
theorem le_get : ∀ (n h i : Nat), i < n → (le n h)[i]? = some (UInt8.ofNat (h / 256 ^ i % 256))
  | 0, _, _, hi => by omega
  | n + 1, h, 0, _ => by simp [le]
  | n + 1, h, i + 1, hi => by
    simp only [le, List.getElem?_cons_succ]
    rw [le_get n (h / 256) i (by omega), Nat.div_div_eq_div_mul, Nat.pow_succ, Nat.mul_comm (256 ^ i) 256]
/-- The number of some bytes, the lowest first. -/
def lev : List UInt8 → Nat
  | [] => 0
  | b :: r => b.toNat + 256 * lev r
theorem lev_le : ∀ (n h : Nat), h < 256 ^ n → lev (le n h) = h
  | 0, h, hh => by simp at hh; subst hh; rfl
  | n + 1, h, hh => by
    simp only [le, lev]
    rw [lev_le n (h / 256) (by rw [Nat.pow_succ] at hh; omega)]
    have : (UInt8.ofNat (h % 256)).toNat = h % 256 := by simp
    omega
theorem lev_lt : ∀ (l : List UInt8), lev l < 256 ^ l.length
  | [] => by simp [lev]
  | b :: r => by
    have := lev_lt r
    have := b.toNat_lt
    simp only [lev, List.length_cons, Nat.pow_succ]
    omega
/-- The handle of a block's bytes; 0: there is none. -/
def hOf (l : List UInt8) : Nat := if l.length = 16 ∧ l.drop 8 = List.replicate 8 0 then lev (l.take 8) else 0
theorem hOf_lt (l : List UInt8) : hOf l < 18446744073709551616 := by
  unfold hOf
  split
  · rename_i h
    have := lev_lt (l.take 8)
    rw [List.length_take, show min 8 l.length = 8 by omega] at this
    exact this
  · decide
theorem hOf_le8 (h : Nat) (hh : h < 18446744073709551616) : hOf (pad (le8 h)) = h := by
  have hl : (le8 h).length = 8 := le_len 8 h
  have hd : (pad (le8 h)).drop 8 = List.replicate 8 0 := by
    unfold pad
    rw [List.drop_append_of_le_length (by omega), List.drop_of_length_le (by omega), hl]
    simp
  unfold hOf
  rw [if_pos ⟨pad_len _ (by omega), hd⟩]
  unfold pad
  rw [List.take_append_of_le_length (by omega), List.take_of_length_le (by omega)]
  exact lev_le 8 h hh
theorem hOf_zero : hOf (List.replicate 16 0) = 0 := by decide
theorem hOf_len {l : List UInt8} (h : l.length ≠ 16) : hOf l = 0 := by unfold hOf; rw [if_neg fun e => h e.1]
/-- Read from the highest byte down. -/
theorem lev_take {l : List UInt8} {k : Nat} (hk : k < l.length) : lev (l.drop k) = l[k].toNat + 256 * lev (l.drop (k + 1)) := by
  rw [List.drop_eq_getElem_cons hk]
  rfl
theorem lev_snoc : ∀ (l : List UInt8) (b : UInt8), lev (l ++ [b]) = lev l + b.toNat * 256 ^ l.length
  | [], b => by simp [lev]
  | c :: r, b => by
    simp only [List.cons_append, lev, lev_snoc r b, List.length_cons, Nat.pow_succ]
    have : 256 * (b.toNat * 256 ^ r.length) = b.toNat * (256 ^ r.length * 256) := by rw [Nat.mul_left_comm, Nat.mul_comm 256 (256 ^ r.length)]
    omega
end Go.Proofs.YtolaojkcofbkhaaGreat
