/- Numbers by their runs, plainly: the runs, the bytes that they make; of no program. Nothing is assumed. -/
import Derived.Test.YtejmllpffocneaaBase
import Derived.Test.YtejmllpffocneaaPkMath
namespace Go.Proofs.Ytejmllpffocneaa

/-- What an int may be. -/
def i64r (x : Int) : Prop := -9223372036854775808 ≤ x ∧ x ≤ 9223372036854775807
/-- The cells of ints. -/
def ics (l : List Int) : List Value := l.map (Value.int .i64)
theorem ics_len (l : List Int) : (ics l).length = l.length := by simp [ics]
theorem ics_app (a b : List Int) : ics (a ++ b) = ics a ++ ics b := by simp [ics]
theorem ics_one (l : List Int) : ∀ u ∈ ics l, u.oneCell' = true := by
  intro u hu
  obtain ⟨c, _, rfl⟩ := List.mem_map.1 hu
  rfl
/-- How long the run is that numbers begin with. -/
def lgO : List Int → Nat
  | [] => 0
  | x :: l => (l.takeWhile (· == x)).length + 1
/-- A run in front. -/
def rsC (x : Int) : List (Int × Nat) → List (Int × Nat)
  | [] => [(x, 1)]
  | (y, k) :: t => if x = y then (x, k + 1) :: t else (x, 1) :: (y, k) :: t
/-- The runs of numbers. -/
def rsO : List Int → List (Int × Nat)
  | [] => []
  | x :: l => rsC x (rsO l)
/-- The numbers of runs. -/
def xpO (r : List (Int × Nat)) : List Int := r.flatMap fun p => List.replicate p.2 p.1
/-- Runs as they are: none is empty, no two of one number stand one behind the other. -/
def okR : List (Int × Nat) → Prop
  | [] => True
  | p :: t => 0 < p.2 ∧ (∀ q, t.head? = some q → q.1 ≠ p.1) ∧ okR t
theorem rsC_same (x : Int) (k : Nat) (t : List (Int × Nat)) : rsC x ((x, k) :: t) = (x, k + 1) :: t := if_pos rfl
theorem rsC_new {x y : Int} (h : x ≠ y) (k : Nat) (t : List (Int × Nat)) : rsC x ((y, k) :: t) = (x, 1) :: (y, k) :: t := if_neg h
theorem xpO_rsC (x : Int) (r : List (Int × Nat)) : xpO (rsC x r) = x :: xpO r := by
  rcases r with _ | ⟨⟨y, k⟩, t⟩
  · rfl
  · by_cases h : x = y
    · subst h
      rw [rsC_same]
      rfl
    · rw [rsC_new h]
      rfl
theorem xpO_rsO : ∀ l : List Int, xpO (rsO l) = l
  | [] => rfl
  | x :: l => by rw [rsO, xpO_rsC, xpO_rsO l]
theorem okR_rsC (x : Int) (r : List (Int × Nat)) (h : okR r) : okR (rsC x r) := by
  rcases r with _ | ⟨⟨y, k⟩, t⟩
  · exact ⟨Nat.one_pos, fun q hq => (by cases hq), trivial⟩
  · by_cases e : x = y
    · subst e
      rw [rsC_same]
      exact ⟨Nat.succ_pos _, h.2.1, h.2.2⟩
    · rw [rsC_new e]
      exact ⟨Nat.one_pos, fun q hq => (by injection hq with hq; rw [← hq]; exact fun e2 => e e2.symm), h⟩
theorem okR_rsO : ∀ l : List Int, okR (rsO l)
  | [] => trivial
  | x :: l => okR_rsC x _ (okR_rsO l)
theorem rsO_rep (x : Int) (l : List Int) (h : ∀ q, (rsO l).head? = some q → q.1 ≠ x) : ∀ k : Nat, rsO (List.replicate (k + 1) x ++ l) = (x, k + 1) :: rsO l
  | 0 => by
    show rsC x (rsO l) = _
    generalize rsO l = r at *
    rcases r with _ | ⟨⟨y, j⟩, t⟩
    · rfl
    · rw [rsC_new (fun e => h (y, j) rfl e.symm)]
  | k + 1 => by
    show rsC x (rsO (List.replicate (k + 1) x ++ l)) = _
    rw [rsO_rep x l h k, rsC_same]
theorem rsO_xpO : ∀ r : List (Int × Nat), okR r → rsO (xpO r) = r
  | [], _ => rfl
  | (x, k) :: t, h => by
    obtain ⟨h1, h2, h3⟩ := h
    have ih := rsO_xpO t h3
    have h1' : 0 < k := h1
    obtain ⟨m, rfl⟩ : ∃ m, k = m + 1 := ⟨k - 1, by omega⟩
    have e : xpO ((x, m + 1) :: t) = List.replicate (m + 1) x ++ xpO t := rfl
    rw [e, rsO_rep x (xpO t) (by rw [ih]; exact h2) m, ih]
theorem rsC_head (x : Int) (r : List (Int × Nat)) : ∃ k t, rsC x r = (x, k) :: t := by
  rcases r with _ | ⟨⟨y, j⟩, t⟩
  · exact ⟨1, [], rfl⟩
  · by_cases h : x = y
    · subst h; exact ⟨_, _, rsC_same _ _ _⟩
    · exact ⟨_, _, rsC_new h _ _⟩
theorem rsO_head (x : Int) (l : List Int) : ∃ k t, rsO (x :: l) = (x, k) :: t := rsC_head x _
theorem tw_rep (x : Int) : ∀ l : List Int, l.takeWhile (· == x) = List.replicate (l.takeWhile (· == x)).length x
  | [] => rfl
  | y :: l => by
    by_cases h : y = x
    · subst h
      have e : (y :: l).takeWhile (· == y) = y :: l.takeWhile (· == y) := by simp
      rw [e, List.length_cons, List.replicate_succ, ← tw_rep y l]
    · have e : (y :: l).takeWhile (· == x) = [] := by simp [h]
      rw [e]; rfl
theorem dw_head (x : Int) : ∀ l : List Int, ∀ y t, l.dropWhile (· == x) = y :: t → y ≠ x
  | [], y, t, h => by cases h
  | z :: l, y, t, h => by
    by_cases hz : z = x
    · subst hz
      have e : (z :: l).dropWhile (· == z) = l.dropWhile (· == z) := by simp
      rw [e] at h
      exact dw_head z l y t h
    · have e : (z :: l).dropWhile (· == x) = z :: l := by simp [hz]
      rw [e] at h
      injection h with h1 h2
      rw [← h1]; exact hz
/-- The first run, and the rest. -/
theorem rs_cut {x : Int} {l : List Int} : rsO (x :: l) = (x, lgO (x :: l)) :: rsO ((x :: l).drop (lgO (x :: l))) := by
  have e1 := tw_rep x l
  have hd : (x :: l).drop (lgO (x :: l)) = l.dropWhile (· == x) := by
    show l.drop (l.takeWhile (· == x)).length = _
    have := List.takeWhile_append_dropWhile (p := (· == x)) (l := l)
    conv => lhs; rhs; rw [← this]
    rw [List.drop_left]
  have e2 : x :: l = List.replicate ((l.takeWhile (· == x)).length + 1) x ++ l.dropWhile (· == x) := by
    rw [List.replicate_succ, List.cons_append, ← e1, List.takeWhile_append_dropWhile]
  rw [hd]
  conv => lhs; rw [e2]
  rw [rsO_rep]
  · rfl
  · intro q hq
    match h : l.dropWhile (· == x) with
    | [] => rw [h] at hq; cases hq
    | y :: t =>
      rw [h] at hq
      obtain ⟨k, t', e⟩ := rsO_head y t
      rw [e] at hq
      injection hq with hq
      rw [← hq]
      exact dw_head x l y t h
theorem lgO_pos {l : List Int} (h : l ≠ []) : 0 < lgO l := by
  cases l with
  | nil => exact absurd rfl h
  | cons x l => exact Nat.succ_pos _
theorem lgO_le (l : List Int) : lgO l ≤ l.length := by
  cases l with
  | nil => exact Nat.le_refl _
  | cons x l => exact Nat.succ_le_succ (List.takeWhile_sublist _).length_le
/-- How long a run is, by its places. -/
theorem lgO_at {x : Int} {l : List Int} {i : Nat} (h : i ≤ (x :: l).length) (h1 : ∀ j (hj : j < (x :: l).length), j < i → (x :: l)[j] = x) (h2 : 0 < i) (h3 : ∀ hi : i < (x :: l).length, (x :: l)[i] ≠ x) : lgO (x :: l) = i := by
  obtain ⟨k, rfl⟩ : ∃ k, i = k + 1 := ⟨i - 1, by omega⟩
  show _ + 1 = k + 1
  congr 1
  have h' : k ≤ l.length := by simpa using h
  have a1 : ∀ j (hj : j < l.length), j < k → l[j] = x := fun j hj hk => h1 (j + 1) (Nat.succ_lt_succ hj) (Nat.succ_lt_succ hk)
  have a3 : ∀ hk : k < l.length, l[k] ≠ x := fun hk => h3 (Nat.succ_lt_succ hk)
  clear h h1 h2 h3
  induction l generalizing k with
  | nil => have : k = 0 := by simpa using h'
           subst this; rfl
  | cons y l ih =>
    cases k with
    | zero =>
      have := a3 (by simp)
      have e : y ≠ x := this
      simp [e]
    | succ k =>
      have e : y = x := a1 0 (by simp) (by omega)
      subst e
      have := ih k (by simpa using h') (fun j hj hk => a1 (j + 1) (Nat.succ_lt_succ hj) (Nat.succ_lt_succ hk)) (fun hk => a3 (Nat.succ_lt_succ hk))
      simp [this]
/-- The bytes of a run; of runs; of numbers. -/
def rnB (p : Int × Nat) : List UInt8 := nat (fold p.1) ++ nat p.2
def rnsB (r : List (Int × Nat)) : List UInt8 := r.flatMap rnB
def ruP (l : List Int) : List UInt8 := nat (rsO l).length ++ rnsB (rsO l)
theorem rnsB_snoc (r : List (Int × Nat)) (p : Int × Nat) : rnsB (r ++ [p]) = rnsB r ++ rnB p := by simp [rnsB]
theorem rnsB_cons (p : Int × Nat) (r : List (Int × Nat)) : rnsB (p :: r) = rnB p ++ rnsB r := by simp [rnsB]
theorem xpO_snoc (r : List (Int × Nat)) (p : Int × Nat) : xpO (r ++ [p]) = xpO r ++ List.replicate p.2 p.1 := by simp [xpO]
theorem xpO_app (r s : List (Int × Nat)) : xpO (r ++ s) = xpO r ++ xpO s := by simp [xpO]
theorem xpO_cons (p : Int × Nat) (r : List (Int × Nat)) : xpO (p :: r) = List.replicate p.2 p.1 ++ xpO r := by simp [xpO]
theorem rsC_len (x : Int) (r : List (Int × Nat)) : (rsC x r).length ≤ r.length + 1 := by
  rcases r with _ | ⟨⟨y, j⟩, t⟩
  · exact Nat.le_refl _
  · by_cases h : x = y
    · subst h; rw [rsC_same]; simp
    · rw [rsC_new h]; simp
theorem rs_len : ∀ l : List Int, (rsO l).length ≤ l.length
  | [] => Nat.le_refl _
  | x :: l => Nat.le_trans (rsC_len x _) (Nat.succ_le_succ (rs_len l))
theorem rnB_len {p : Int × Nat} (h : i64r p.1) (h2 : p.2 < 18446744073709551616) : (rnB p).length ≤ 20 := by
  have := nat_len_u64 (fold_lt h.1 h.2)
  have := nat_len_u64 h2
  unfold rnB
  rw [List.length_append]
  omega
theorem rs_in {l : List Int} {p : Int × Nat} (h : p ∈ rsO l) : p.1 ∈ l ∧ p.2 ≤ l.length ∧ 0 < p.2 := by
  have hx := xpO_rsO l
  have hk := okR_rsO l
  have hpos : 0 < p.2 := by
    clear hx
    revert hk h
    generalize rsO l = r
    induction r with
    | nil => intro h; cases h
    | cons q t ih =>
      intro h hk
      rcases List.mem_cons.1 h with e | e
      · rw [e]; exact hk.1
      · exact ih e hk.2.2
  obtain ⟨a, b, e⟩ := List.append_of_mem h
  rw [e, xpO_app, xpO_cons] at hx
  refine ⟨?_, ?_, hpos⟩
  · rw [← hx]
    refine List.mem_append_right _ (List.mem_append_left _ ?_)
    exact List.mem_replicate.2 ⟨by omega, rfl⟩
  · have := congrArg List.length hx
    rw [List.length_append, List.length_append, List.length_replicate] at this
    omega
theorem rnsB_len : ∀ r : List (Int × Nat), (∀ p ∈ r, i64r p.1 ∧ p.2 < 18446744073709551616) → (rnsB r).length ≤ 20 * r.length
  | [], _ => Nat.le_refl _
  | p :: r, h => by
    have h1 := rnB_len (h p (by simp)).1 (h p (by simp)).2
    have h2 := rnsB_len r fun q hq => h q (by simp [hq])
    rw [rnsB_cons, List.length_append, List.length_cons]
    omega
theorem nat_cut {a b : Nat} {r s : List UInt8} (ha : a < 18446744073709551616) (hb : b < 18446744073709551616) (h : nat a ++ r = nat b ++ s) : a = b ∧ r = s := by
  obtain ⟨h1, h2, h3⟩ := rd_nat' a r ha
  obtain ⟨g1, g2, g3⟩ := rd_nat' b s hb
  rw [h] at h1 h2 h3
  exact ⟨by rw [← h1, g1], by rw [← h3, g3]⟩
theorem fold_inj {x y : Int} (h : fold x = fold y) : x = y := by rw [← unfold_fold x, h, unfold_fold]
theorem rnsB_inj : ∀ r s : List (Int × Nat), (∀ p ∈ r, i64r p.1 ∧ p.2 < 18446744073709551616) → (∀ p ∈ s, i64r p.1 ∧ p.2 < 18446744073709551616) → r.length = s.length → rnsB r = rnsB s → r = s
  | [], s, _, _, hl, _ => (List.eq_nil_of_length_eq_zero hl.symm).symm
  | (x, k) :: r, [], _, _, hl, _ => by cases hl
  | (x, k) :: r, (y, j) :: s, h1, h2, hl, he => by
    rw [rnsB_cons, rnsB_cons] at he
    unfold rnB at he
    simp only [List.append_assoc] at he
    have a1 := h1 (x, k) (by simp)
    have a2 := h2 (y, j) (by simp)
    obtain ⟨e1, e2⟩ := nat_cut (fold_lt a1.1.1 a1.1.2) (fold_lt a2.1.1 a2.1.2) he
    obtain ⟨e3, e4⟩ := nat_cut a1.2 a2.2 e2
    have e3' : k = j := e3
    have := rnsB_inj r s (fun p hp => h1 p (by simp [hp])) (fun p hp => h2 p (by simp [hp])) (by simpa using hl) e4
    have e1' : x = y := fold_inj e1
    rw [e1', e3', this]
def i64s (l : List Int) : Prop := ∀ x ∈ l, i64r x
theorem rs_ok {l : List Int} (h : i64s l) (hl : l.length < 18446744073709551616) : ∀ p ∈ rsO l, i64r p.1 ∧ p.2 < 18446744073709551616 := fun _ hp => ⟨h _ (rs_in hp).1, Nat.lt_of_le_of_lt (rs_in hp).2.1 hl⟩
theorem ruP_inj {l m : List Int} (h1 : i64s l) (h2 : i64s m) (hl : l.length < 18446744073709551616) (hm : m.length < 18446744073709551616) (h : ruP l = ruP m) : l = m := by
  unfold ruP at h
  have g1 := rs_len l
  have g2 := rs_len m
  obtain ⟨e1, e2⟩ := nat_cut (by omega) (by omega) h
  rw [← xpO_rsO l, ← xpO_rsO m, rnsB_inj _ _ (rs_ok h1 hl) (rs_ok h2 hm) e1 e2]
/-- What Get may answer: the numbers that are put so, or that there are none. -/
def RuG (b : List UInt8) (n : Int) (l : List Int) (ok : Bool) : Prop :=
  (ok = true ∧ 0 ≤ n ∧ n ≤ 256 ∧ (l.length : Int) = n ∧ i64s l ∧ ruP l = b) ∨
  (ok = false ∧ l = [] ∧ ((n < 0 ∨ 256 < n) ∨ ∀ m : List Int, i64s m → (m.length : Int) = n → ruP m ≠ b))
theorem RuG.one {b : List UInt8} {n : Int} {l m : List Int} {x y : Bool} (h : RuG b n l x) (g : RuG b n m y) : l = m ∧ x = y := by
  rcases h with ⟨rfl, h1, h2, h3, h4, h5⟩ | ⟨rfl, rfl, h1⟩
  · rcases g with ⟨rfl, g1, g2, g3, g4, g5⟩ | ⟨rfl, rfl, g1⟩
    · exact ⟨ruP_inj h4 g4 (by omega) (by omega) (h5.trans g5.symm), rfl⟩
    · rcases g1 with g1 | g1
      · omega
      · exact absurd h5 (g1 l h4 h3)
  · rcases g with ⟨rfl, g1, g2, g3, g4, g5⟩ | ⟨rfl, rfl, g1⟩
    · rcases h1 with h1 | h1
      · omega
      · exact absurd g5 (h1 m g4 g3)
    · exact ⟨rfl, rfl⟩
/-- What numbers may be that are put so. -/
def RuM (b : List UInt8) (n : Int) (m : List Int) : Prop := i64s m ∧ (m.length : Int) = n ∧ ruP m = b
theorem RuM.len {b : List UInt8} {n : Int} {m : List Int} (h : RuM b n m) (hn : n ≤ 256) : m.length ≤ 256 := by have := h.2.1; omega
theorem RuG.no {b : List UInt8} {n : Int} (h : ∀ m, RuM b n m → False) : RuG b n [] false := .inr ⟨rfl, rfl, .inr fun m h1 h2 h3 => h m ⟨h1, h2, h3⟩⟩
theorem RuG.out {b : List UInt8} {n : Int} (h : n < 0 ∨ 256 < n) : RuG b n [] false := .inr ⟨rfl, rfl, .inl h⟩
theorem RuM.rs {b : List UInt8} {n : Int} {m : List Int} (h : RuM b n m) (hn : n ≤ 256) : ∀ p ∈ rsO m, i64r p.1 ∧ p.2 < 18446744073709551616 := rs_ok h.1 (by have := h.len hn; omega)
theorem RuM.rd {b : List UInt8} {n : Int} {m : List Int} (h : RuM b n m) (hn : n ≤ 256) : (rd b).1 = (rsO m).length ∧ (rd b).2 ≠ 0 ∧ b.drop (rd b).2 = rnsB (rsO m) := by
  rw [← h.2.2]
  unfold ruP
  exact rd_nat' _ _ (by have := rs_len m; have := h.len hn; omega)
/-- A run that stands in front. -/
theorem rd_run {x : Int} {k : Nat} {s : List (Int × Nat)} {rest : List UInt8} (hx : i64r x) (hk : k < 18446744073709551616) (h : rnsB ((x, k) :: s) = rest) : (rd rest).1 = fold x ∧ (rd rest).2 ≠ 0 ∧ (rd (rest.drop (rd rest).2)).1 = k ∧ (rd (rest.drop (rd rest).2)).2 ≠ 0 ∧ (rest.drop (rd rest).2).drop (rd (rest.drop (rd rest).2)).2 = rnsB s := by
  subst h
  have e : rnsB ((x, k) :: s) = nat (fold x) ++ (nat k ++ rnsB s) := by rw [rnsB_cons]; unfold rnB; rw [List.append_assoc]
  rw [e]
  obtain ⟨h1, h2, h3⟩ := rd_nat' (fold x) (nat k ++ rnsB s) (fold_lt hx.1 hx.2)
  rw [h3]
  obtain ⟨g1, g2, g3⟩ := rd_nat' k (rnsB s) hk
  exact ⟨h1, h2, g1, g2, g3⟩
theorem rnsB_eq_nil {s : List (Int × Nat)} (h : rnsB s = []) : s = [] := by
  cases s with
  | nil => rfl
  | cons p s =>
    rw [rnsB_cons] at h
    have := congrArg List.length h
    have h2 := nat_pos (fold p.1)
    unfold rnB at this
    rw [List.length_append, List.length_append] at this
    have h3 : ([] : List UInt8).length = 0 := rfl
    omega
/-- Where the document's reading stands, if the bytes are put so: rest is what is left behind runs that made l. -/
def RuI (b : List UInt8) (n : Int) (l : List Int) (rest : List UInt8) : Prop :=
  ∀ m, RuM b n m → ∃ r s, rsO m = r ++ s ∧ xpO r = l ∧ rnsB s = rest
theorem RuI.start {b : List UInt8} {n : Int} (hn : n ≤ 256) : RuI b n [] (b.drop (rd b).2) := fun _ h => ⟨[], _, rfl, rfl, (h.rd hn).2.2.symm⟩
theorem RuI.none_ {b : List UInt8} {n : Int} (hn : n ≤ 256) (hz : (rd b).2 = 0) : RuG b n [] false := RuG.no fun _ h => (h.rd hn).2.1 hz
theorem RuI.front {b rest : List UInt8} {n : Int} {l : List Int} (h : RuI b n l rest) (hn : n ≤ 256) (hr : rest ≠ []) {m : List Int} (hm : RuM b n m) : ∃ r x k s, rsO m = r ++ (x, k) :: s ∧ xpO r = l ∧ i64r x ∧ 0 < k ∧ k + l.length ≤ m.length ∧ (rd rest).1 = fold x ∧ (rd rest).2 ≠ 0 ∧ (rd (rest.drop (rd rest).2)).1 = k ∧ (rd (rest.drop (rd rest).2)).2 ≠ 0 ∧ (rest.drop (rd rest).2).drop (rd (rest.drop (rd rest).2)).2 = rnsB s := by
  obtain ⟨r, s, e1, e2, e3⟩ := h m hm
  match s, e1, e3 with
  | [], _, e3 => exact absurd e3.symm hr
  | (x, k) :: s, e1, e3 =>
    have hin : (x, k) ∈ rsO m := by rw [e1]; simp
    have h1 := hm.rs hn _ hin
    have h2 := rs_in hin
    refine ⟨r, x, k, s, e1, e2, h1.1, h2.2.2, ?_, rd_run h1.1 h1.2 e3⟩
    have := congrArg List.length (xpO_rsO m)
    rw [e1, xpO_app, e2, xpO_cons, List.length_append, List.length_append, List.length_replicate] at this
    omega
theorem RuI.next {b rest : List UInt8} {n : Int} {l : List Int} (h : RuI b n l rest) (hn : n ≤ 256) (hr : rest ≠ []) : RuI b n (l ++ List.replicate (rd (rest.drop (rd rest).2)).1 (unfold_ (rd rest).1)) ((rest.drop (rd rest).2).drop (rd (rest.drop (rd rest).2)).2) := by
  intro m hm
  obtain ⟨r, x, k, s, e1, e2, h1, h2, h3, g1, g2, g3, g4, g5⟩ := h.front hn hr hm
  refine ⟨r ++ [(x, k)], s, by rw [e1, List.append_assoc]; rfl, ?_, g5.symm⟩
  rw [xpO_snoc, e2, g3, g1, unfold_fold]
theorem RuI.no1 {b rest : List UInt8} {n : Int} {l : List Int} (h : RuI b n l rest) (hn : n ≤ 256) (hr : rest ≠ []) (hz : (rd rest).2 = 0) : RuG b n [] false := RuG.no fun m hm => by
  obtain ⟨r, x, k, s, e1, e2, h1, h2, h3, g1, g2, g3, g4, g5⟩ := h.front hn hr hm
  exact g2 hz
theorem RuI.no2 {b rest : List UInt8} {n : Int} {l : List Int} (h : RuI b n l rest) (hn : n ≤ 256) (hr : rest ≠ []) (hz : (rd (rest.drop (rd rest).2)).2 = 0 ∨ 256 < (rd (rest.drop (rd rest).2)).1) : RuG b n [] false := RuG.no fun m hm => by
  obtain ⟨r, x, k, s, e1, e2, h1, h2, h3, g1, g2, g3, g4, g5⟩ := h.front hn hr hm
  have := hm.len hn
  rcases hz with hz | hz
  · exact g4 hz
  · omega
theorem RuI.no3 {b rest : List UInt8} {n : Int} {l : List Int} (h : RuI b n l rest) (hz : n < l.length) : RuG b n [] false := RuG.no fun m hm => by
  obtain ⟨r, s, e1, e2, e3⟩ := h m hm
  have := congrArg List.length (xpO_rsO m)
  rw [e1, xpO_app, e2, List.length_append] at this
  have := hm.2.1
  omega
theorem RuI.all {b : List UInt8} {n : Int} {l : List Int} (h : RuI b n l []) {m : List Int} (hm : RuM b n m) : m = l := by
  obtain ⟨r, s, e1, e2, e3⟩ := h m hm
  have := rnsB_eq_nil e3
  subst this
  rw [← xpO_rsO m, e1, List.append_nil, e2]
theorem RuI.no4 {b : List UInt8} {n : Int} {l : List Int} (h : RuI b n l []) (hz : (l.length : Int) ≠ n) : RuG b n [] false := RuG.no fun m hm => by
  have := h.all hm
  subst this
  exact hz hm.2.1
theorem RuI.no5 {b : List UInt8} {n : Int} {l : List Int} (h : RuI b n l []) (hz : ruP l ≠ b) : RuG b n [] false := RuG.no fun m hm => by
  have := h.all hm
  subst this
  exact hz hm.2.2
/-- Where the code's reading stands: r is what was read, rest what is left. -/
def RuS (b : List UInt8) (cnt : Nat) (r : List (Int × Nat)) (rest : List UInt8) : Prop :=
  okR r ∧ (∀ p ∈ r, i64r p.1 ∧ p.2 < 18446744073709551616) ∧ b = nat cnt ++ (rnsB r ++ rest) ∧ cnt < 18446744073709551616
theorem last_rep {x : Int} {k : Nat} (l : List Int) (h : 0 < k) : (l ++ List.replicate k x).getLast? = some x := by
  obtain ⟨j, rfl⟩ : ∃ j, k = j + 1 := ⟨k - 1, by omega⟩
  rw [List.replicate_succ', ← List.append_assoc, List.getLast?_concat]
theorem xpO_ne {r : List (Int × Nat)} (h : okR r) (h2 : r ≠ []) : xpO r ≠ [] := by
  match r, h with
  | [], _ => exact absurd rfl h2
  | (x, k) :: t, h =>
    intro e
    have := congrArg List.length e
    rw [xpO_cons, List.length_append, List.length_replicate] at this
    have h1 : 0 < k := h.1
    simp at this
    omega
theorem last_app {a b : List Int} (h : b ≠ []) : (a ++ b).getLast? = b.getLast? := by
  rw [List.getLast?_append]
  cases hb : b.getLast? with
  | none => exact absurd (List.getLast?_eq_none_iff.1 hb) h
  | some x => rfl
theorem okR_snoc {x : Int} {k : Nat} (hk : 0 < k) : ∀ r : List (Int × Nat), okR r → (xpO r).getLast? ≠ some x → okR (r ++ [(x, k)])
  | [], _, _ => ⟨hk, fun q hq => (by cases hq), trivial⟩
  | (y, j) :: t, h, hl => by
    obtain ⟨h1, h2, h3⟩ := h
    rw [xpO_cons] at hl
    match t, h2, h3, hl with
    | [], _, _, hl =>
      have e : xpO [] = [] := rfl
      rw [e, List.append_nil] at hl
      have e2 := last_rep (x := y) [] h1
      rw [List.nil_append] at e2
      rw [e2] at hl
      refine ⟨h1, fun q hq => ?_, hk, fun q hq => (by cases hq), trivial⟩
      injection hq with hq
      rw [← hq]
      exact fun e => hl (congrArg some (Eq.symm e))
    | p :: t, h2, h3, hl =>
      rw [last_app (xpO_ne h3 (by simp))] at hl
      exact ⟨h1, fun q hq => h2 q hq, okR_snoc hk (p :: t) h3 hl⟩
theorem okR_last {x : Int} {k : Nat} {s : List (Int × Nat)} : ∀ r : List (Int × Nat), okR (r ++ (x, k) :: s) → (xpO r).getLast? ≠ some x
  | [], _ => by
    have e : xpO [] = [] := rfl
    rw [e]
    exact fun h => by cases h
  | (y, j) :: t, h => by
    obtain ⟨h1, h2, h3⟩ := h
    rw [xpO_cons]
    match t, h2, h3 with
    | [], h2, _ =>
      have e : xpO [] = [] := rfl
      rw [e, List.append_nil]
      have e2 := last_rep (x := y) [] h1
      rw [List.nil_append] at e2
      rw [e2]
      intro e
      injection e with e
      exact h2 (x, k) rfl e.symm
    | p :: t, _, h3 =>
      have h3' : okR (p :: t ++ (x, k) :: s) := h3
      have hne : xpO (p :: t) ≠ [] := by
        obtain ⟨g1, _, _⟩ := h3
        intro e
        have := congrArg List.length e
        rw [xpO_cons, List.length_append, List.length_replicate] at this
        simp at this
        omega
      rw [last_app hne]
      exact okR_last (p :: t) h3'
theorem RuS.start {b : List UInt8} (h : (rd b).2 ≠ 0) : RuS b (rd b).1 [] (b.drop (rd b).2) := ⟨trivial, fun p hp => (by cases hp), rd_back h, rd_lt b⟩
theorem rnsB_cut : ∀ (r s : List (Int × Nat)) (rest : List UInt8), (∀ p ∈ r, i64r p.1 ∧ p.2 < 18446744073709551616) → (∀ p ∈ s, i64r p.1 ∧ p.2 < 18446744073709551616) → r.length ≤ s.length → rnsB r ++ rest = rnsB s → ∃ t, s = r ++ t ∧ rnsB t = rest
  | [], s, rest, _, _, _, h => ⟨s, rfl, h.symm⟩
  | (x, k) :: r, [], rest, _, _, hl, _ => absurd hl (by simp)
  | (x, k) :: r, (y, j) :: s, rest, h1, h2, hl, he => by
    rw [rnsB_cons, rnsB_cons] at he
    unfold rnB at he
    simp only [List.append_assoc] at he
    have a1 := h1 (x, k) (by simp)
    have a2 := h2 (y, j) (by simp)
    obtain ⟨e1, e2⟩ := nat_cut (fold_lt a1.1.1 a1.1.2) (fold_lt a2.1.1 a2.1.2) he
    obtain ⟨e3, e4⟩ := nat_cut a1.2 a2.2 e2
    have e3' : k = j := e3
    obtain ⟨t, e5, e6⟩ := rnsB_cut r s rest (fun p hp => h1 p (by simp [hp])) (fun p hp => h2 p (by simp [hp])) (by simpa using hl) e4
    have e1' : x = y := fold_inj e1
    exact ⟨t, by rw [e1', e3', e5]; rfl, e6⟩
theorem RuS.cpl {b rest : List UInt8} {cnt : Nat} {n : Int} {r : List (Int × Nat)} (h : RuS b cnt r rest) (hn : n ≤ 256) (hc : r.length ≤ cnt) {m : List Int} (hm : RuM b n m) : cnt = (rsO m).length ∧ ∃ t, rsO m = r ++ t ∧ rnsB t = rest := by
  obtain ⟨h1, h2, h3, h4⟩ := h
  have e := hm.2.2
  rw [h3] at e
  unfold ruP at e
  have hl := rs_len m
  have hl2 := hm.len hn
  obtain ⟨e1, e2⟩ := nat_cut (by omega) h4 e
  refine ⟨e1.symm, rnsB_cut r (rsO m) rest h2 (hm.rs hn) (by omega) e2.symm⟩
/-- May a run be read there, behind l, where n numbers are awaited? -/
def runK (l : List Int) (n : Nat) (rest : List UInt8) : Prop :=
  (rd rest).2 ≠ 0 ∧ l.getLast? ≠ some (unfold_ (rd rest).1) ∧ (rd (rest.drop (rd rest).2)).2 ≠ 0 ∧ 0 < (rd (rest.drop (rd rest).2)).1 ∧ (rd (rest.drop (rd rest).2)).1 ≤ n - l.length
def runL (l : List Int) (rest : List UInt8) : List Int := l ++ List.replicate (rd (rest.drop (rd rest).2)).1 (unfold_ (rd rest).1)
def runR (rest : List UInt8) : List UInt8 := (rest.drop (rd rest).2).drop (rd (rest.drop (rd rest).2)).2
theorem RuS.next {b rest : List UInt8} {cnt n : Nat} {r : List (Int × Nat)} (h : RuS b cnt r rest) (hk : runK (xpO r) n rest) : ∃ p, RuS b cnt (r ++ [p]) (runR rest) ∧ xpO (r ++ [p]) = runL (xpO r) rest := by
  obtain ⟨h1, h2, h3, h4⟩ := h
  obtain ⟨k1, k2, k3, k4, k5⟩ := hk
  refine ⟨(unfold_ (rd rest).1, (rd (rest.drop (rd rest).2)).1), ⟨okR_snoc k4 r h1 k2, fun p hp => ?_, ?_, h4⟩, xpO_snoc _ _⟩
  · rcases List.mem_append.1 hp with e | e
    · exact h2 p e
    · have := List.mem_singleton.1 e
      rw [this]
      refine ⟨?_, rd_lt _⟩
      have := rd_lt rest
      unfold i64r unfold_
      split <;> constructor <;> omega
  · have g1 := rd_back k1
    have g2 := rd_back k3
    rw [rnsB_snoc]
    unfold rnB runR
    rw [fold_unfold]
    simp only [List.append_assoc]
    rw [← g2, ← g1]
    exact h3
theorem RuS.no {b rest : List UInt8} {cnt n : Nat} {r : List (Int × Nat)} (h : RuS b cnt r rest) (hn : n ≤ 256) (hc : r.length < cnt) (hk : ¬ runK (xpO r) n rest) : RuG b n [] false := RuG.no fun m hm => by
  obtain ⟨e1, t, e2, e3⟩ := h.cpl (n := (n : Int)) (by omega) (by omega) hm
  match t, e2, e3 with
  | [], e2, _ => rw [e2, List.append_nil] at e1; omega
  | (x, k) :: s, e2, e3 =>
    have hin : (x, k) ∈ rsO m := by rw [e2]; simp
    have h1 := hm.rs (by omega) _ hin
    have h2 := rs_in hin
    obtain ⟨g1, g2, g3, g4, g5⟩ := rd_run h1.1 h1.2 e3
    refine hk ⟨g2, ?_, g4, by rw [g3]; exact h2.2.2, ?_⟩
    · rw [g1, unfold_fold]
      exact okR_last (k := k) (s := s) r (by rw [← e2]; exact okR_rsO m)
    · have := congrArg List.length (xpO_rsO m)
      rw [e2, xpO_app, xpO_cons, List.length_append, List.length_append, List.length_replicate] at this
      have := hm.2.1
      rw [g3]
      omega
theorem RuS.end_ {b rest : List UInt8} {cnt : Nat} {n : Int} {r : List (Int × Nat)} (h : RuS b cnt r rest) (hn : n ≤ 256) (hc : r.length = cnt) {m : List Int} (hm : RuM b n m) : m = xpO r ∧ rest = [] := by
  obtain ⟨e1, t, e2, e3⟩ := h.cpl hn (by omega) hm
  have : t = [] := by
    rw [e2, List.length_append] at e1
    exact List.eq_nil_of_length_eq_zero (by omega)
  subst this
  rw [List.append_nil] at e2
  exact ⟨by rw [← e2, xpO_rsO], e3.symm⟩
theorem RuS.yes {b : List UInt8} {cnt : Nat} {n : Int} {r : List (Int × Nat)} (h : RuS b cnt r []) (h0 : 0 ≤ n) (hn : n ≤ 256) (hc : r.length = cnt) (hl : ((xpO r).length : Int) = n) : RuG b n (xpO r) true := by
  obtain ⟨h1, h2, h3, h4⟩ := h
  refine .inl ⟨rfl, h0, hn, hl, fun x hx => ?_, ?_⟩
  · obtain ⟨p, hp, hx⟩ := List.mem_flatMap.1 hx
    rw [(List.mem_replicate.1 hx).2]
    exact (h2 p hp).1
  · unfold ruP
    rw [rsO_xpO r h1, hc, h3, List.append_nil]
end Go.Proofs.Ytejmllpffocneaa
