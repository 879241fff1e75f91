/- Blobs and their directory, plainly: how it is written, what bytes are one; of no program. Nothing is assumed. -/
import Derived.Test.YtdkbpjkoiegflaaGreatPgMath
import Derived.Test.YtdkbpjkoiegflaaGreatTcMath
namespace Go.Proofs.YtdkbpjkoiegflaaGreat

/-- The number at the beginning of bytes stands there as numbers are written. -/
theorem rdN_back : ∀ (l : List UInt8) (i n : Nat), i ≤ 9 → (rdN l i n).2 ≠ 0 → ∃ q, (rdN l i n).1 = n + q * 128 ^ i ∧ (0 < i → 0 < q) ∧ i < (rdN l i n).2 ∧ l = nat q ++ l.drop ((rdN l i n).2 - i)
  | [], _, _, _, h => absurd rfl h
  | c :: cs, i, n, hi, h => by
    have hc := c.toNat_lt
    by_cases h1 : i = 9 ∧ 1 < c.toNat
    · rw [rdN, if_pos h1] at h; exact absurd rfl h
    by_cases h2 : 128 ≤ c.toNat
    · rw [rdN_on h1 h2] at h ⊢
      have h9 : i < 9 := by omega
      obtain ⟨q, e1, e2, e3, e4⟩ := rdN_back cs (i + 1) _ (by omega) h
      have hq := e2 (by omega)
      refine ⟨c.toNat % 128 + 128 * q, ?_, fun _ => by omega, by omega, ?_⟩
      · rw [e1, Nat.pow_succ, Nat.add_mul]
        have : q * (128 ^ i * 128) = 128 * q * 128 ^ i := by rw [Nat.mul_comm (128 ^ i) 128, ← Nat.mul_assoc, Nat.mul_comm q 128]
        omega
      · rw [nat_big (by omega), show (c.toNat % 128 + 128 * q) % 128 + 128 = c.toNat by omega, show (c.toNat % 128 + 128 * q) / 128 = q by omega]
        generalize (rdN cs (i + 1) (n + c.toNat % 128 * 128 ^ i)).2 = k at *
        obtain ⟨m, rfl⟩ : ∃ m, k = i + 1 + m := ⟨k - (i + 1), by omega⟩
        rw [show i + 1 + m - i = m + 1 by omega]
        rw [show i + 1 + m - (i + 1) = m by omega] at e4
        show c :: cs = UInt8.ofNat c.toNat :: (nat q ++ cs.drop m)
        rw [← e4]
        simp
    · by_cases h3 : c.toNat = 0 ∧ 0 < i
      · rw [rdN_zero h1 h3.1 h3.2] at h; exact absurd rfl h
      · rw [rdN_end h1 (by omega) h3] at h ⊢
        refine ⟨c.toNat, by rw [Nat.mod_eq_of_lt (by omega)], fun _ => by omega, by simp, ?_⟩
        rw [nat_small (by omega)]
        show c :: cs = UInt8.ofNat c.toNat :: (c :: cs).drop (i + 1 - i)
        rw [show i + 1 - i = 1 by omega]
        simp
theorem rd_back {l : List UInt8} (h : (rd l).2 ≠ 0) : l = nat (rd l).1 ++ l.drop (rd l).2 := by
  obtain ⟨q, e1, _, _, e4⟩ := rdN_back l 0 0 (by omega) h
  have e5 : (rd l).1 = q := by show (rdN l 0 0).1 = q; rw [e1]; simp
  rw [e5]
  exact e4
theorem fold_unfold (u : Nat) : fold (unfold_ u) = u := by unfold fold unfold_; split <;> split <;> omega
theorem unfold_ok {u : Nat} (h : u < 18446744073709551616) : i64ok (unfold_ u) := by unfold unfold_ i64ok; split <;> constructor <;> omega
theorem rd_nat' (q : Nat) (r : List UInt8) (h : q < 18446744073709551616) : (rd (nat q ++ r)).1 = q ∧ (rd (nat q ++ r)).2 ≠ 0 ∧ (nat q ++ r).drop (rd (nat q ++ r)).2 = r := by
  rw [rd_nat q r h]
  have := nat_pos q
  exact ⟨rfl, by show (nat q).length ≠ 0; omega, by show (nat q ++ r).drop (nat q).length = r; simp⟩

/-- A number; a text; so many numbers: at the beginning of bytes, and what is behind. -/
def rdI (l : List UInt8) : Option (Int × List UInt8) := if (rd l).2 = 0 then none else some (unfold_ (rd l).1, l.drop (rd l).2)
def rdT (l : List UInt8) : Option (List UInt8 × List UInt8) := if (rd l).2 = 0 ∨ (l.drop (rd l).2).length < (rd l).1 then none else some ((l.drop (rd l).2).take (rd l).1, (l.drop (rd l).2).drop (rd l).1)
def rdIs : Nat → List UInt8 → Option (List Int × List UInt8)
  | 0, l => some ([], l)
  | n + 1, l => match rdI l with
    | none => none
    | some (x, r) => match rdIs n r with
      | none => none
      | some (xs, r') => some (x :: xs, r')
theorem rdI_num {x : Int} (hx : i64ok x) (r : List UInt8) : rdI (num x ++ r) = some (x, r) := by
  obtain ⟨h1, h2, h3⟩ := rd_nat' (fold x) r (fold_lt hx.1 hx.2)
  unfold rdI num
  rw [if_neg h2, h1, h3, unfold_fold]
theorem rdI_back {l r : List UInt8} {x : Int} (h : rdI l = some (x, r)) : l = num x ++ r ∧ i64ok x := by
  unfold rdI at h
  split at h
  · cases h
  · rename_i hz
    injection h with h
    injection h with h1 h2
    have := rd_back hz
    refine ⟨?_, h1 ▸ unfold_ok (rd_lt l)⟩
    unfold num
    rw [← h1, fold_unfold, ← h2]
    exact this
def numsB (xs : List Int) : List UInt8 := xs.flatMap num
theorem rdIs_nums : ∀ (xs : List Int) (r : List UInt8), (∀ x ∈ xs, i64ok x) → rdIs xs.length (numsB xs ++ r) = some (xs, r)
  | [], r, _ => rfl
  | x :: xs, r, h => by
    have e : numsB (x :: xs) ++ r = num x ++ (numsB xs ++ r) := by simp [numsB]
    rw [e, List.length_cons, rdIs, rdI_num (h x (by simp))]
    dsimp only
    rw [rdIs_nums xs r fun y hy => h y (by simp [hy])]
theorem rdIs_back : ∀ (n : Nat) (l r : List UInt8) (xs : List Int), rdIs n l = some (xs, r) → l = numsB xs ++ r ∧ xs.length = n ∧ ∀ x ∈ xs, i64ok x
  | 0, l, r, xs, h => by
    injection h with h
    injection h with h1 h2
    subst h1 h2
    exact ⟨rfl, rfl, fun x hx => by cases hx⟩
  | n + 1, l, r, xs, h => by
    rw [rdIs] at h
    split at h
    · cases h
    · rename_i x r1 h1
      split at h
      · cases h
      · rename_i ys r2 h2
        injection h with h
        injection h with h3 h4
        subst h3 h4
        obtain ⟨a1, a2⟩ := rdI_back h1
        obtain ⟨b1, b2, b3⟩ := rdIs_back n r1 r2 ys h2
        refine ⟨?_, by rw [List.length_cons, b2], fun y hy => ?_⟩
        · rw [a1, b1]; simp [numsB]
        · rcases List.mem_cons.1 hy with e | e
          · rw [e]; exact a2
          · exact b3 y e
def txtB (s : List UInt8) : List UInt8 := nat s.length ++ s
theorem rdT_txt {s : List UInt8} (hs : s.length < 18446744073709551616) (r : List UInt8) : rdT (txtB s ++ r) = some (s, r) := by
  unfold txtB
  rw [List.append_assoc]
  obtain ⟨h1, h2, h3⟩ := rd_nat' s.length (s ++ r) hs
  unfold rdT
  rw [h3, h1, if_neg (by rintro (e | e); exact h2 e; rw [List.length_append] at e; omega)]
  simp
theorem rdT_back {l s r : List UInt8} (h : rdT l = some (s, r)) : l = txtB s ++ r ∧ s.length < 18446744073709551616 := by
  unfold rdT at h
  split at h
  · cases h
  · rename_i hz
    injection h with h
    injection h with h1 h2
    have h3 : (rd l).2 ≠ 0 := fun e => hz (.inl e)
    have h4 : (rd l).1 ≤ (l.drop (rd l).2).length := by
      rcases Nat.lt_or_ge (l.drop (rd l).2).length (rd l).1 with e | e
      · exact absurd (.inr e) hz
      · exact e
    have h5 := rd_back h3
    have h6 : s.length = (rd l).1 := by rw [← h1, List.length_take]; omega
    refine ⟨?_, by rw [h6]; exact rd_lt l⟩
    unfold txtB
    rw [h6, ← h1, ← h2, List.append_assoc, List.take_append_drop]
    exact h5

/-- A blob of a store. -/
structure Bb where
  nm : List UInt8
  k : Ky
  b : Int
  p : Pg
  sz : Int
deriving DecidableEq
def entB (x : Bb) : List UInt8 := txtB x.nm ++ numsB [x.k.t, x.k.c, x.k.e, x.b, x.p.id, x.p.ver, x.sz]
def entsB (l : List Bb) : List UInt8 := l.flatMap entB
/-- The directory of some blobs. -/
def dirB (l : List Bb) : List UInt8 := nat l.length ++ entsB l
def Bb.wf (x : Bb) : Prop := x.nm.length < 18446744073709551616 ∧ x.k.wf ∧ i64ok x.b ∧ i64ok x.p.id ∧ i64ok x.p.ver ∧ i64ok x.sz
/-- The blob with its page's key. -/
def Bb.own (x : Bb) : Bb := { x with p := ⟨x.k, x.p.id, x.p.ver⟩ }
theorem Bb.own_of {x : Bb} (h : x.p.k = x.k) : x.own = x := by
  obtain ⟨nm, k, b, ⟨pk, id, ver⟩, sz⟩ := x
  dsimp only at h
  subst h
  rfl
def ofNums (nm : List UInt8) : List Int → Option Bb
  | [a, b, c, d, e, g, h] => some ⟨nm, ⟨a, b, c⟩, d, ⟨⟨a, b, c⟩, e, g⟩, h⟩
  | _ => none
def rdBl (l : List UInt8) : Option (Bb × List UInt8) := match rdT l with
  | none => none
  | some (nm, r) => match rdIs 7 r with
    | none => none
    | some (xs, r') => (ofNums nm xs).map fun x => (x, r')
theorem rdBl_ent {x : Bb} (hx : x.wf) (r : List UInt8) : rdBl (entB x ++ r) = some (x.own, r) := by
  obtain ⟨h1, h2, h3, h4, h5, h6⟩ := hx
  have e := rdIs_nums [x.k.t, x.k.c, x.k.e, x.b, x.p.id, x.p.ver, x.sz] r (fun y hy => by
    simp only [List.mem_cons, List.not_mem_nil, or_false] at hy
    rcases hy with rfl | rfl | rfl | rfl | rfl | rfl | rfl
    · exact h2.1
    · exact h2.2.1
    · exact h2.2.2
    · exact h3
    · exact h4
    · exact h5
    · exact h6)
  unfold rdBl entB
  rw [List.append_assoc, rdT_txt h1]
  dsimp only
  rw [show (7 : Nat) = ([x.k.t, x.k.c, x.k.e, x.b, x.p.id, x.p.ver, x.sz] : List Int).length from rfl, e]
  rfl
theorem rdBl_back {l r : List UInt8} {x : Bb} (h : rdBl l = some (x, r)) : l = entB x ++ r ∧ x.wf ∧ x.p.k = x.k := by
  unfold rdBl at h
  split at h
  · cases h
  · rename_i nm r1 h1
    split at h
    · cases h
    · rename_i xs r2 h2
      obtain ⟨a1, a2⟩ := rdT_back h1
      obtain ⟨b1, b2, b3⟩ := rdIs_back 7 r1 r2 xs h2
      match xs, b2, h with
      | [a, b, c, d, e, g, k], _, h =>
        simp only [ofNums, Option.map_some, Option.some.injEq, Prod.mk.injEq] at h
        obtain ⟨rfl, rfl⟩ := h
        refine ⟨?_, ⟨a2, ⟨b3 a (by simp), b3 b (by simp), b3 c (by simp)⟩, b3 d (by simp), b3 e (by simp), b3 g (by simp), b3 k (by simp)⟩, rfl⟩
        rw [a1, b1]
        unfold entB
        rw [List.append_assoc]
def rdBls : Nat → List UInt8 → Option (List Bb × List UInt8)
  | 0, l => some ([], l)
  | n + 1, l => match rdBl l with
    | none => none
    | some (x, r) => match rdBls n r with
      | none => none
      | some (xs, r') => some (x :: xs, r')
theorem rdBls_ents : ∀ (xs : List Bb) (r : List UInt8), (∀ x ∈ xs, x.wf) → rdBls xs.length (entsB xs ++ r) = some (xs.map Bb.own, r)
  | [], r, _ => rfl
  | x :: xs, r, h => by
    have e : entsB (x :: xs) ++ r = entB x ++ (entsB xs ++ r) := by simp [entsB]
    rw [e, List.length_cons, rdBls, rdBl_ent (h x (by simp))]
    dsimp only
    rw [rdBls_ents xs r fun y hy => h y (by simp [hy])]
    rfl
theorem rdBls_back : ∀ (n : Nat) (l r : List UInt8) (xs : List Bb), rdBls n l = some (xs, r) → l = entsB xs ++ r ∧ xs.length = n ∧ ∀ x ∈ xs, x.wf ∧ x.p.k = x.k
  | 0, l, r, xs, h => by
    injection h with h
    injection h with h1 h2
    subst h1 h2
    exact ⟨rfl, rfl, fun x hx => by cases hx⟩
  | n + 1, l, r, xs, h => by
    rw [rdBls] at h
    split at h
    · cases h
    · rename_i x r1 h1
      split at h
      · cases h
      · rename_i ys r2 h2
        injection h with h
        injection h with h3 h4
        subst h3 h4
        obtain ⟨a1, a2⟩ := rdBl_back h1
        obtain ⟨b1, b2, b3⟩ := rdBls_back n r1 r2 ys h2
        refine ⟨?_, by rw [List.length_cons, b2], fun y hy => ?_⟩
        · rw [a1, b1]; simp [entsB]
        · rcases List.mem_cons.1 hy with e | e
          · rw [e]; exact a2
          · exact b3 y e

/-- May a blob have this name? May a store have this blob, these blobs? -/
def nmOk (s : List UInt8) : Prop := s ≠ [] ∧ s.length ≤ 40
instance (s : List UInt8) : Decidable (nmOk s) := inferInstanceAs (Decidable (_ ∧ _))
def bbOk (x : Bb) : Prop := nmOk x.nm ∧ x.k.right ∧ x.p.k = x.k ∧ 0 ≤ x.p.id ∧ 0 ≤ x.p.ver ∧ 0 ≤ x.sz ∧ x.sz ≤ 65536 ∧ 2 ≤ x.b ∧ x.b ≤ 4095
instance (x : Bb) : Decidable (bbOk x) := inferInstanceAs (Decidable (_ ∧ _))
def apart (y x : Bb) : Prop := y.b ≠ x.b ∧ Op.bytesLess y.nm x.nm = true
instance (y x : Bb) : Decidable (apart y x) := inferInstanceAs (Decidable (_ ∧ _))
def Rgt (l : List Bb) : Prop := (∀ x ∈ l, bbOk x) ∧ l.Pairwise apart ∧ l.length ≤ 1000
instance (l : List Bb) : Decidable (Rgt l) := inferInstanceAs (Decidable (_ ∧ _))
/-- The blobs of a directory. -/
def parB (b : List UInt8) : Option (List Bb) := if (rd b).2 = 0 ∨ 1000 < (rd b).1 then none else match rdBls (rd b).1 (b.drop (rd b).2) with
  | none => none
  | some (l, r) => if r = [] ∧ Rgt l then some l else none
theorem parB_dir {l : List Bb} (hw : ∀ x ∈ l, x.wf) (hl : l.length < 18446744073709551616) : parB (dirB l) = if Rgt (l.map Bb.own) then some (l.map Bb.own) else none := by
  obtain ⟨h1, h2, h3⟩ := rd_nat' l.length (entsB l) hl
  unfold parB dirB
  rw [h3, h1]
  by_cases hk : 1000 < l.length
  · rw [if_pos (.inr hk), if_neg]
    rintro ⟨_, _, h⟩
    rw [List.length_map] at h
    omega
  · rw [if_neg (by rintro (e | e); exact h2 e; exact hk e)]
    have := rdBls_ents l [] hw
    rw [List.append_nil] at this
    rw [this]
    by_cases hr : Rgt (l.map Bb.own)
    · rw [if_pos hr]; exact if_pos ⟨rfl, hr⟩
    · rw [if_neg hr]; exact if_neg fun e => hr e.2
theorem own_all {l : List Bb} (h : ∀ x ∈ l, x.p.k = x.k) : l.map Bb.own = l := by
  conv => rhs; rw [← List.map_id l]
  exact List.map_congr_left fun x hx => Bb.own_of (h x hx)
theorem parB_right {l : List Bb} (hw : ∀ x ∈ l, x.wf) (hr : Rgt l) : parB (dirB l) = some l := by
  rw [parB_dir hw (by have := hr.2.2; omega), own_all fun x hx => (hr.1 x hx).2.2.1, if_pos hr]
theorem parB_back {b : List UInt8} {l : List Bb} (h : parB b = some l) : dirB l = b ∧ Rgt l ∧ ∀ x ∈ l, x.wf := by
  unfold parB at h
  split at h
  · cases h
  · rename_i hz
    have h3 : (rd b).2 ≠ 0 := fun e => hz (.inl e)
    split at h
    · cases h
    · rename_i xs r h1
      split at h
      · rename_i h2
        injection h with h
        subst h
        obtain ⟨a1, a2, a3⟩ := rdBls_back _ _ _ _ h1
        rw [h2.1, List.append_nil] at a1
        refine ⟨?_, h2.2, fun x hx => (a3 x hx).1⟩
        unfold dirB
        rw [a2, ← a1]
        exact (rd_back h3).symm
      · cases h
end Go.Proofs.YtdkbpjkoiegflaaGreat
