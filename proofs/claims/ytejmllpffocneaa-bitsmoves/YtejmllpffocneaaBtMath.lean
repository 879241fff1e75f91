/- Numbers by few bits, plainly: the least, the width, the bytes that they make, what is read of bytes; of no program. Nothing is assumed. -/
import Derived.Test.YtejmllpffocneaaRuMath
import Derived.Test.YtejmllpffocneaaBmP
import Derived.Lib.BitFns
namespace Go.Proofs.Ytejmllpffocneaa
open Go.RowKit

/-- How much x is above m. -/
def di (x m : Int) : Nat := (x - m).toNat
/-- The least, the greatest. -/
def mnL : List Int → Int
  | [] => 0
  | x :: t => t.foldl min x
def mxL : List Int → Int
  | [] => 0
  | x :: t => t.foldl max x
theorem mnL_snoc {l : List Int} (h : l ≠ []) (x : Int) : mnL (l ++ [x]) = min (mnL l) x := by
  cases l with
  | nil => exact absurd rfl h
  | cons y t => simp [mnL]
theorem mxL_snoc {l : List Int} (h : l ≠ []) (x : Int) : mxL (l ++ [x]) = max (mxL l) x := by
  cases l with
  | nil => exact absurd rfl h
  | cons y t => simp [mxL]
theorem fmin_le : ∀ (t : List Int) (x : Int), t.foldl min x ≤ x ∧ ∀ y ∈ t, t.foldl min x ≤ y
  | [], x => ⟨Int.le_refl _, fun y h => by cases h⟩
  | z :: t, x => by
    obtain ⟨h1, h2⟩ := fmin_le t (min x z)
    rw [List.foldl_cons]
    refine ⟨by omega, fun y hy => ?_⟩
    rcases List.mem_cons.1 hy with rfl | hy
    · omega
    · exact h2 y hy
theorem fmin_in : ∀ (t : List Int) (x : Int), t.foldl min x = x ∨ t.foldl min x ∈ t
  | [], x => .inl rfl
  | z :: t, x => by
    rw [List.foldl_cons]
    rcases fmin_in t (min x z) with h | h
    · rw [h]
      rcases Int.le_total x z with e | e
      · exact .inl (Int.min_eq_left e)
      · rw [Int.min_eq_right e]; exact .inr (List.mem_cons_self ..)
    · exact .inr (List.mem_cons_of_mem _ h)
theorem fmax_le : ∀ (t : List Int) (x : Int), x ≤ t.foldl max x ∧ ∀ y ∈ t, y ≤ t.foldl max x
  | [], x => ⟨Int.le_refl _, fun y h => by cases h⟩
  | z :: t, x => by
    obtain ⟨h1, h2⟩ := fmax_le t (max x z)
    rw [List.foldl_cons]
    refine ⟨by omega, fun y hy => ?_⟩
    rcases List.mem_cons.1 hy with rfl | hy
    · omega
    · exact h2 y hy
theorem fmax_in : ∀ (t : List Int) (x : Int), t.foldl max x = x ∨ t.foldl max x ∈ t
  | [], x => .inl rfl
  | z :: t, x => by
    rw [List.foldl_cons]
    rcases fmax_in t (max x z) with h | h
    · rw [h]
      rcases Int.le_total x z with e | e
      · rw [Int.max_eq_right e]; exact .inr (List.mem_cons_self ..)
      · exact .inl (Int.max_eq_left e)
    · exact .inr (List.mem_cons_of_mem _ h)
theorem mnL_le {l : List Int} {y : Int} (h : y ∈ l) : mnL l ≤ y := by
  cases l with
  | nil => cases h
  | cons x t =>
    rcases List.mem_cons.1 h with rfl | h
    · exact (fmin_le t y).1
    · exact (fmin_le t x).2 y h
theorem mxL_le {l : List Int} {y : Int} (h : y ∈ l) : y ≤ mxL l := by
  cases l with
  | nil => cases h
  | cons x t =>
    rcases List.mem_cons.1 h with rfl | h
    · exact (fmax_le t y).1
    · exact (fmax_le t x).2 y h
theorem mnL_in {l : List Int} (h : l ≠ []) : mnL l ∈ l := by
  cases l with
  | nil => exact absurd rfl h
  | cons x t =>
    rcases fmin_in t x with e | e
    · show t.foldl min x ∈ _; rw [e]; exact List.mem_cons_self ..
    · exact List.mem_cons_of_mem _ e
theorem mxL_in {l : List Int} (h : l ≠ []) : mxL l ∈ l := by
  cases l with
  | nil => exact absurd rfl h
  | cons x t =>
    rcases fmax_in t x with e | e
    · show t.foldl max x ∈ _; rw [e]; exact List.mem_cons_self ..
    · exact List.mem_cons_of_mem _ e
theorem di_lt {x m : Int} (hx : i64r x) (hm : i64r m) : di x m < 18446744073709551616 := by
  unfold di i64r at *
  omega
/-- How many bits a number needs. -/
theorem bl_zero : Lib.bitLen 0 = 0 := rfl
theorem bl_iff : ∀ (w : Nat) {d : Nat} (_h : d < 18446744073709551616), Lib.bitLen d ≤ w ↔ d < 2 ^ w
  | 0, d, h => by
    by_cases h0 : d = 0
    · subst h0; rw [bl_zero]; simp
    · rw [Lib.bitLen_half d h0 h, Nat.pow_zero]; omega
  | w + 1, d, h => by
    by_cases h0 : d = 0
    · subst h0; rw [bl_zero]; exact ⟨fun _ => Nat.pow_pos (by decide), fun _ => Nat.zero_le _⟩
    · have ih := bl_iff w (d := d / 2) (by omega)
      rw [Lib.bitLen_half d h0 h, Nat.pow_succ]
      omega
theorem bl_le {d : Nat} (h : d < 18446744073709551616) : Lib.bitLen d ≤ 64 := (bl_iff 64 h).2 h
/-- The lowest bits of a number. -/
def dBits (w d : Nat) : List Bool := (List.range w).map (bt d)
theorem dBits_len (w d : Nat) : (dBits w d).length = w := by simp [dBits]
theorem tr_dBits {w d j : Nat} (h : j < w) : tr (dBits w d) j = bt d j := by
  rw [tr_at (by rw [dBits_len]; exact h)]; simp [dBits]
def dfs (l : List Int) (m : Int) (w : Nat) : List Bool := l.flatMap fun x => dBits w (di x m)
theorem dfs_cons (x : Int) (l : List Int) (m : Int) (w : Nat) : dfs (x :: l) m w = dBits w (di x m) ++ dfs l m w := by simp [dfs]
theorem dfs_snoc (l : List Int) (x : Int) (m : Int) (w : Nat) : dfs (l ++ [x]) m w = dfs l m w ++ dBits w (di x m) := by simp [dfs]
theorem dfs_app (a b : List Int) (m : Int) (w : Nat) : dfs (a ++ b) m w = dfs a m w ++ dfs b m w := by simp [dfs]
theorem dfs_len : ∀ (l : List Int) (m : Int) (w : Nat), (dfs l m w).length = l.length * w
  | [], m, w => by simp [dfs]
  | x :: l, m, w => by rw [dfs_cons, List.length_append, dBits_len, dfs_len l, List.length_cons, Nat.succ_mul, Nat.add_comm]
theorem tr_dfs : ∀ (l : List Int) (m : Int) (w : Nat) {i j : Nat} (hi : i < l.length), j < w → tr (dfs l m w) (i * w + j) = bt (di l[i] m) j
  | x :: l, m, w, 0, j, _, hj => by
    rw [dfs_cons, tr_app, dBits_len, if_pos (by omega), Nat.zero_mul, Nat.zero_add, tr_dBits hj]
    rfl
  | x :: l, m, w, i + 1, j, hi, hj => by
    have e : (i + 1) * w = i * w + w := Nat.succ_mul i w
    rw [dfs_cons, tr_app, dBits_len, if_neg (by omega), show (i + 1) * w + j - w = i * w + j by omega]
    exact tr_dfs l m w (by simpa using hi) hj
def wdL (l : List Int) : Nat := Lib.bitLen (di (mxL l) (mnL l))
/-- The bytes of numbers. -/
def btB (l : List Int) : List UInt8 := nat (fold (mnL l)) ++ UInt8.ofNat (wdL l) :: bmP (dfs l (mnL l) (wdL l))
def btP (l : List Int) : List UInt8 := if l = [] then [] else btB l
theorem btP_of {l : List Int} (h : l ≠ []) : btP l = btB l := if_neg h
theorem btP_nil : btP [] = [] := rfl
theorem wdL_le {l : List Int} (h : l ≠ []) (h64 : i64s l) : wdL l ≤ 64 := bl_le (di_lt (h64 _ (mxL_in h)) (h64 _ (mnL_in h)))
theorem di_wdL {l : List Int} (h64 : i64s l) {x : Int} (hx : x ∈ l) : di x (mnL l) < 2 ^ wdL l := by
  have h : l ≠ [] := by rintro rfl; cases hx
  have h1 := di_lt (h64 _ (mxL_in h)) (h64 _ (mnL_in h))
  have h2 := (bl_iff (wdL l) h1).1 (Nat.le_refl _)
  have h3 := mxL_le hx
  have h4 : di x (mnL l) ≤ di (mxL l) (mnL l) := by unfold di; omega
  omega
/-- Numbers and their bits. -/
theorem psb_bt (d : Nat) : ∀ w, psb (bt d) w = d % 2 ^ w
  | 0 => by simp [psb, Nat.mod_one]
  | w + 1 => by
    rw [psb, psb_bt d w, Nat.mod_pow_succ, Nat.mul_comm]
    congr 2
    unfold bt
    rcases Nat.mod_two_eq_zero_or_one (d / 2 ^ w) with e | e <;> rw [e] <;> rfl
theorem psb_bt_all {d w : Nat} (h : d < 2 ^ w) : psb (bt d) w = d := by rw [psb_bt, Nat.mod_eq_of_lt h]
theorem psb_congr {f g : Nat → Bool} : ∀ {w : Nat}, (∀ j, j < w → f j = g j) → psb f w = psb g w
  | 0, _ => rfl
  | w + 1, h => by rw [psb, psb, psb_congr (fun j hj => h j (by omega)), h w (by omega)]
theorem bt_psb (f : Nat → Bool) : ∀ {w j : Nat}, j < w → bt (psb f w) j = f j
  | w + 1, j, h => by
    rw [psb]
    have hl := psb_lt f w
    by_cases e : j = w
    · subst e
      unfold bt
      have e2 : (psb f j + (f j).toNat * 2 ^ j) / 2 ^ j = (f j).toNat := by
        rw [Nat.add_mul_div_right _ _ (Nat.pow_pos (by decide)), Nat.div_eq_of_lt hl, Nat.zero_add]
      rw [e2]
      cases f j <;> rfl
    · have hj : j < w := by omega
      rw [← bt_psb f hj]
      unfold bt
      have e2 : (f w).toNat * 2 ^ w = ((f w).toNat * 2 ^ (w - j - 1) * 2) * 2 ^ j := by
        rw [Nat.mul_assoc, Nat.mul_assoc, ← Nat.pow_succ', ← Nat.pow_add]
        congr 2
        omega
      rw [e2, Nat.add_mul_div_right _ _ (Nat.pow_pos (by decide)), Nat.add_mul_mod_self_right]
/-- Number i of bytes that hold numbers of w bits. -/
def nbd (b : List UInt8) (w i : Nat) : Nat := psb (fun j => bi b (i * w + j)) w
theorem nbd_lt (b : List UInt8) (w i : Nat) : nbd b w i < 2 ^ w := psb_lt _ _
theorem nbd_put {l : List Int} {m : Int} {w i : Nat} (hi : i < l.length) (h : di l[i] m < 2 ^ w) : nbd (bmP (dfs l m w)) w i = di l[i] m := by
  unfold nbd
  rw [psb_congr (g := bt (di l[i] m)) fun j hj => by rw [bi_bmP, tr_dfs l m w hi hj], psb_bt_all h]
/-- What stands at the head of bytes. -/
def hL (b : List UInt8) : Int := unfold_ (rd b).1
def hW (b : List UInt8) : Nat := (b[(rd b).2]?.getD 0).toNat
def hB (b : List UInt8) : List UInt8 := b.drop ((rd b).2 + 1)
def hO (b : List UInt8) : Prop := (rd b).2 ≠ 0 ∧ (rd b).2 < b.length ∧ hW b ≤ 64
theorem hL_r (b : List UInt8) : i64r (hL b) := by
  have := rd_lt b
  unfold hL unfold_ i64r
  split <;> omega
theorem hd_len {b : List UInt8} (h : (rd b).2 ≠ 0) : (nat (fold (hL b))).length = (rd b).2 := by
  have h1 := rd_back h
  have h2 := rd_le b
  have h3 := congrArg List.length h1
  rw [List.length_append, List.length_drop] at h3
  have e : fold (hL b) = (rd b).1 := fold_unfold _
  rw [e]
  omega
theorem hd_form {b : List UInt8} (h : hO b) : b = nat (fold (hL b)) ++ UInt8.ofNat (hW b) :: hB b := by
  obtain ⟨h0, h1, h2⟩ := h
  have e : fold (hL b) = (rd b).1 := fold_unfold _
  have h3 : b.drop (rd b).2 = UInt8.ofNat (hW b) :: hB b := by
    rw [List.drop_eq_getElem_cons h1]
    congr 1
    unfold hW
    rw [List.getElem?_eq_getElem h1]
    simp
  rw [e, ← h3]
  exact rd_back h0
/-- What numbers may be that are put so. -/
def BtM (b : List UInt8) (n : Int) (m : List Int) : Prop := i64s m ∧ (m.length : Int) = n ∧ btP m = b
theorem BtM.ne {b : List UInt8} {n : Int} {m : List Int} (h : BtM b n m) (hn : 0 < n) : m ≠ [] := by
  rintro rfl
  have := h.2.1
  simp at this
  omega
theorem BtM.head {b : List UInt8} {n : Int} {m : List Int} (h : BtM b n m) (hn : 0 < n) : hO b ∧ hL b = mnL m ∧ hW b = wdL m ∧ hB b = bmP (dfs m (mnL m) (wdL m)) := by
  have hne := h.ne hn
  have hb := h.2.2
  rw [btP_of hne] at hb
  have hw := wdL_le hne h.1
  have hmn := h.1 _ (mnL_in hne)
  obtain ⟨e1, e2, e3⟩ := rd_nat' (fold (mnL m)) (UInt8.ofNat (wdL m) :: bmP (dfs m (mnL m) (wdL m))) (fold_lt hmn.1 hmn.2)
  have e0 : nat (fold (mnL m)) ++ UInt8.ofNat (wdL m) :: bmP (dfs m (mnL m) (wdL m)) = b := hb
  rw [e0] at e1 e2 e3
  have hlt : (rd b).2 < b.length := by
    have := congrArg List.length e3
    rw [List.length_drop, List.length_cons] at this
    omega
  have e4 := List.drop_eq_getElem_cons hlt
  rw [e3] at e4
  injection e4 with e5 e6
  have hW' : hW b = wdL m := by
    unfold hW
    rw [List.getElem?_eq_getElem hlt, ← e5]
    show (UInt8.ofNat (wdL m)).toNat = _
    rw [UInt8.toNat_ofNat', Nat.mod_eq_of_lt (by omega)]
  refine ⟨⟨e2, hlt, by omega⟩, ?_, hW', e6.symm⟩
  unfold hL
  rw [e1, unfold_fold]
/-- The numbers that are read, one by one. -/
def outL (b : List UInt8) (n : Nat) : List Int := (List.range n).map fun i => wrap64 (hL b + nbd (hB b) (hW b) i)
theorem outL_len (b : List UInt8) (n : Nat) : (outL b n).length = n := by simp [outL]
theorem outL_at {b : List UInt8} {n i : Nat} (h : i < n) : (outL b n)[i]'(by rw [outL_len]; exact h) = wrap64 (hL b + nbd (hB b) (hW b) i) := by simp [outL]
theorem outL_succ (b : List UInt8) (n : Nat) : outL b (n + 1) = outL b n ++ [wrap64 (hL b + nbd (hB b) (hW b) n)] := by simp [outL, List.range_succ]
theorem w64_r (x : Int) : i64r (wrap64 x) := by unfold i64r wrap64; omega
theorem w64_id {x : Int} (h : i64r x) : wrap64 x = x := by unfold i64r at h; unfold wrap64; omega
theorem outL_r (b : List UInt8) (n : Nat) : i64s (outL b n) := fun x hx => by
  obtain ⟨i, _, rfl⟩ := List.mem_map.1 hx
  exact w64_r _
theorem BtM.nbd {b : List UInt8} {n : Nat} {m : List Int} (h : BtM b n m) {i : Nat} (hi : i < n) : ∃ x ∈ m, nbd (hB b) (hW b) i = di x (hL b) ∧ hL b ≤ x ∧ m[i]? = some x := by
  obtain ⟨_, h1, h2, h3⟩ := h.head (by omega)
  have hl : m.length = n := by have := h.2.1; omega
  have hi' : i < m.length := by omega
  have hin := List.getElem_mem hi'
  refine ⟨m[i], hin, ?_, ?_, List.getElem?_eq_getElem hi'⟩
  · rw [h1, h2, h3]
    exact nbd_put hi' (di_wdL h.1 hin)
  · rw [h1]; exact mnL_le hin
theorem BtM.out {b : List UInt8} {n : Nat} {m : List Int} (h : BtM b n m) : outL b n = m := by
  have hl : m.length = n := by have := h.2.1; omega
  refine List.ext_getElem (by rw [outL_len, hl]) fun i h1 h2 => ?_
  rw [outL_len] at h1
  obtain ⟨x, hx, e1, e2, e3⟩ := h.nbd h1
  rw [outL_at h1, e1]
  rw [List.getElem?_eq_getElem h2] at e3
  injection e3 with e3
  rw [e3]
  have := h.1 x hx
  rw [w64_id (by unfold di; unfold i64r at *; omega)]
  unfold di
  omega
/-- What Get may answer. -/
def BtG (b : List UInt8) (n : Int) (l : List Int) (ok : Bool) : Prop :=
  (ok = true ∧ 0 ≤ n ∧ n ≤ 256 ∧ (l.length : Int) = n ∧ i64s l ∧ btP l = b) ∨
  (ok = false ∧ l = [] ∧ ((n < 0 ∨ 256 < n) ∨ ∀ m : List Int, BtM b n m → False))
theorem btP_len {l : List Int} (h : i64s l) {k : Nat} (hk : l.length ≤ k) : (btP l).length ≤ 20 + 9 * k := by
  by_cases h0 : l = []
  · subst h0; rw [btP_nil]; exact Nat.zero_le _
  · rw [btP_of h0]
    unfold btB
    have hm := h _ (mnL_in h0)
    have h1 := nat_len_u64 (fold_lt hm.1 hm.2)
    have h2 := Nat.mul_le_mul hk (wdL_le h0 h)
    rw [List.length_append, List.length_cons, bmP_len, dfs_len]
    unfold nby
    omega
theorem BtG.no {b : List UInt8} {n : Int} (h : ∀ m, BtM b n m → False) : BtG b n [] false := .inr ⟨rfl, rfl, .inr h⟩
theorem BtG.away {b : List UInt8} {n : Int} (h : n < 0 ∨ 256 < n) : BtG b n [] false := .inr ⟨rfl, rfl, .inl h⟩
theorem BtM.one {b : List UInt8} {n : Int} {l m : List Int} (h : BtM b n l) (g : BtM b n m) : l = m := by
  have h1 := h.2.1
  have e : n = (l.length : Int) := h1.symm
  rw [e] at h g
  exact h.out.symm.trans g.out
theorem BtG.one {b : List UInt8} {n : Int} {l m : List Int} {x y : Bool} (h : BtG b n l x) (g : BtG b n m y) : l = m ∧ x = y := by
  rcases h with ⟨rfl, h1, h2, h3, h4, h5⟩ | ⟨rfl, rfl, h1⟩
  · rcases g with ⟨rfl, g1, g2, g3, g4, g5⟩ | ⟨rfl, rfl, g1⟩
    · exact ⟨BtM.one ⟨h4, h3, h5⟩ ⟨g4, g3, g5⟩, rfl⟩
    · rcases g1 with g1 | g1
      · omega
      · exact (g1 l ⟨h4, h3, h5⟩).elim
  · rcases g with ⟨rfl, g1, g2, g3, g4, g5⟩ | ⟨rfl, rfl, g1⟩
    · rcases h1 with h1 | h1
      · omega
      · exact (h1 m ⟨g4, g3, g5⟩).elim
    · exact ⟨rfl, rfl⟩
theorem BtG.isIt {b : List UInt8} {n : Int} {l m : List Int} {x y : Bool} (h : BtG b n l x) (g : BtG b n m y) : m = l ∧ y = x := ⟨(h.one g).1.symm, (h.one g).2.symm⟩
/-- No numbers. -/
theorem BtG.zero (b : List UInt8) : BtG b 0 [] (decide (b.length = 0)) := by
  by_cases h : b.length = 0
  · rw [decide_eq_true h]
    exact .inl ⟨rfl, by decide, by decide, rfl, fun x hx => (by cases hx), (List.eq_nil_of_length_eq_zero h).symm⟩
  · rw [decide_eq_false h]
    refine BtG.no fun m hm => ?_
    have : m = [] := List.eq_nil_of_length_eq_zero (by have := hm.2.1; omega)
    subst this
    exact h (by rw [← hm.2.2]; rfl)
theorem BtG.no1 {b : List UInt8} {n : Int} (hn : 0 < n) (h : ¬ hO b) : BtG b n [] false := BtG.no fun _ hm => h (hm.head hn).1
theorem BtM.bg {b : List UInt8} {n : Nat} {m : List Int} (h : BtM b n m) (hn : 0 < n) : bgO (hB b) ((n * hW b : Nat) : Int) = true := by
  obtain ⟨_, h1, h2, h3⟩ := h.head (by omega)
  have hl : m.length = n := by have := h.2.1; omega
  rw [h3, h2, ← hl, ← dfs_len m (mnL m) (wdL m)]
  exact (bmP_ok _).1
theorem BtG.no2 {b : List UInt8} {n : Nat} (hn : 0 < n) (h : bgO (hB b) ((n * hW b : Nat) : Int) = false) : BtG b n [] false := BtG.no fun _ hm => by
  rw [hm.bg hn] at h; cases h
theorem BtG.no2' {b : List UInt8} {n : Nat} (hn : 0 < n) (h : 8 * (hB b).length < n * hW b) : BtG b n [] false := BtG.no2 hn (decide_eq_false fun e => by
  have := e.2.1
  unfold nby at this
  have e2 : ((n * hW b : Nat) : Int).toNat = n * hW b := Int.toNat_natCast _
  rw [e2] at this
  omega)
/-- How much room there is above the least. -/
def room (x : Int) : Nat := (9223372036854775807 - x).toNat
theorem BtG.no3 {b : List UInt8} {n i : Nat} (hi : i < n) (h : room (hL b) < nbd (hB b) (hW b) i) : BtG b n [] false := BtG.no fun _ hm => by
  obtain ⟨x, hx, e1, e2, _⟩ := hm.nbd hi
  have h1 := hm.1 x hx
  rw [e1] at h
  unfold room di i64r at *
  omega
theorem BtG.no4 {b : List UInt8} {n : Nat} (hn : 0 < n) (h : mnL (outL b n) ≠ hL b ∨ wdL (outL b n) ≠ hW b) : BtG b n [] false := BtG.no fun _ hm => by
  obtain ⟨_, h1, h2, _⟩ := hm.head (by omega)
  rw [hm.out, h1, h2] at h
  rcases h with h | h <;> exact h rfl
theorem BtG.no5 {b : List UInt8} {n : Nat} (h : btP (outL b n) ≠ b) : BtG b n [] false := BtG.no fun _ hm => by
  rw [hm.out] at h
  exact h hm.2.2
theorem BtG.yes5 {b : List UInt8} {n : Nat} (hn : n ≤ 256) (h : btP (outL b n) = b) : BtG b n (outL b n) true :=
  .inl ⟨rfl, by omega, by omega, by rw [outL_len], outL_r b n, h⟩
theorem dfs_out {b : List UInt8} {n : Nat} (hr : ∀ i, i < n → nbd (hB b) (hW b) i ≤ room (hL b)) : dfs (outL b n) (hL b) (hW b) = bgL (hB b) (n * hW b) := by
  refine tr_ext (by rw [dfs_len, outL_len, bgL_len]) fun k hk => ?_
  rw [dfs_len, outL_len] at hk
  have hw : 0 < hW b := Nat.pos_of_ne_zero fun e => by rw [e, Nat.mul_zero] at hk; omega
  have e : k = k / hW b * hW b + k % hW b := by rw [Nat.mul_comm]; exact (Nat.div_add_mod k (hW b)).symm
  have hi : k / hW b < n := Nat.div_lt_of_lt_mul (by rw [Nat.mul_comm]; exact hk)
  have hj := Nat.mod_lt k hw
  rw [tr_bgL, if_pos hk]
  generalize k / hW b = i at *
  generalize k % hW b = j at *
  subst e
  rw [tr_dfs _ _ _ (by rw [outL_len]; exact hi) hj, outL_at hi]
  have h1 := hr i hi
  have h2 := hL_r b
  have e3 : di (wrap64 (hL b + nbd (hB b) (hW b) i)) (hL b) = nbd (hB b) (hW b) i := by
    rw [w64_id (by unfold room i64r at *; omega)]
    unfold di
    omega
  rw [e3]
  exact bt_psb _ hj
theorem BtG.yes {b : List UInt8} {n : Nat} (h0 : 0 < n) (hn : n ≤ 256) (h : hO b) (hg : bgO (hB b) ((n * hW b : Nat) : Int) = true) (hr : ∀ i, i < n → nbd (hB b) (hW b) i ≤ room (hL b)) (h1 : mnL (outL b n) = hL b) (h2 : wdL (outL b n) = hW b) : BtG b n (outL b n) true := by
  refine BtG.yes5 hn ?_
  have hne : outL b n ≠ [] := fun e => by have := congrArg List.length e; rw [outL_len] at this; simp at this; omega
  rw [btP_of hne]
  unfold btB
  rw [h1, h2, dfs_out hr]
  have := bgL_back hg
  rw [show ((n * hW b : Nat) : Int).toNat = n * hW b from Int.toNat_natCast _] at this
  rw [this]
  exact (hd_form h).symm
/-- What is put is read again. -/
theorem BtG.put {l : List Int} (h : i64s l) (hn : l.length ≤ 256) : BtG (btP l) l.length l true := .inl ⟨rfl, by omega, by omega, rfl, h, rfl⟩
end Go.Proofs.Ytejmllpffocneaa
