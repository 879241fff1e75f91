/- Blobs and their directory, plainly: how it is written, what bytes are one; of no program. Nothing is assumed. A store's calls as functions of the device, the vault, the cell and the blobs; what holds of its blobs; of no program. Nothing is assumed. What a plan of changes comes to; pages written one behind another; of no program. Nothing is assumed. What holds of a store behind commits, crashes and other hands; of no program. Nothing is assumed. Further of stores, of no program: how many blocks are free; the handle on a blob's block. Nothing is assumed. -/
import Derived.Test.YtolaojkcofbkhaaGreatPgMath
import Derived.Test.YtolaojkcofbkhaaGreatTcMath
import Derived.Test.YtolaojkcofbkhaaGreatRtDef
namespace Go.Proofs.YtolaojkcofbkhaaGreat

theorem unfold_ok {u : Nat} (h : u < 18446744073709551616) : i64ok (unfold_ u) := by unfold unfold_ i64ok; split <;> constructor <;> omega

/-- A number; a text; so many numbers: at the beginning of bytes, and what is behind. -/
def rdI (l : List UInt8) : Option (Int × List UInt8) := if (rd l).2 = 0 then none else some (unfold_ (rd l).1, l.drop (rd l).2)
def rdT (l : List UInt8) : Option (List UInt8 × List UInt8) := if (rd l).2 = 0 ∨ (l.drop (rd l).2).length < (rd l).1 then none else some ((l.drop (rd l).2).take (rd l).1, (l.drop (rd l).2).drop (rd l).1)
def rdIs : Nat → List UInt8 → Option (List Int × List UInt8)
  | 0, l => some ([], l)
  | n + 1, l => match rdI l with
    | none => none
    | some (x, r) => match rdIs n r with
      | none => none
      | some (xs, r') => some (x :: xs, r')
theorem rdI_num {x : Int} (hx : i64ok x) (r : List UInt8) : rdI (num x ++ r) = some (x, r) := by
  obtain ⟨h1, h2, h3⟩ := rd_nat' (fold x) r (fold_lt hx.1 hx.2)
  unfold rdI num
  rw [if_neg h2, h1, h3, unfold_fold]
theorem rdI_back {l r : List UInt8} {x : Int} (h : rdI l = some (x, r)) : l = num x ++ r ∧ i64ok x := by
  unfold rdI at h
  split at h
  · cases h
  · rename_i hz
    injection h with h
    injection h with h1 h2
    have := rd_back hz
    refine ⟨?_, h1 ▸ unfold_ok (rd_lt l)⟩
    unfold num
    rw [← h1, fold_unfold, ← h2]
    exact this
def numsB (xs : List Int) : List UInt8 := xs.flatMap num
theorem rdIs_nums : ∀ (xs : List Int) (r : List UInt8), (∀ x ∈ xs, i64ok x) → rdIs xs.length (numsB xs ++ r) = some (xs, r)
  | [], r, _ => rfl
  | x :: xs, r, h => by
    have e : numsB (x :: xs) ++ r = num x ++ (numsB xs ++ r) := by simp [numsB]
    rw [e, List.length_cons, rdIs, rdI_num (h x (by simp))]
    dsimp only
    rw [rdIs_nums xs r fun y hy => h y (by simp [hy])]
theorem rdIs_back : ∀ (n : Nat) (l r : List UInt8) (xs : List Int), rdIs n l = some (xs, r) → l = numsB xs ++ r ∧ xs.length = n ∧ ∀ x ∈ xs, i64ok x
  | 0, l, r, xs, h => by
    injection h with h
    injection h with h1 h2
    subst h1 h2
    exact ⟨rfl, rfl, fun x hx => by cases hx⟩
  | n + 1, l, r, xs, h => by
    rw [rdIs] at h
    split at h
    · cases h
    · rename_i x r1 h1
      split at h
      · cases h
      · rename_i ys r2 h2
        injection h with h
        injection h with h3 h4
        subst h3 h4
        obtain ⟨a1, a2⟩ := rdI_back h1
        obtain ⟨b1, b2, b3⟩ := rdIs_back n r1 r2 ys h2
        refine ⟨?_, by rw [List.length_cons, b2], fun y hy => ?_⟩
        · rw [a1, b1]; simp [numsB]
        · rcases List.mem_cons.1 hy with e | e
          · rw [e]; exact a2
          · exact b3 y e
def txtB (s : List UInt8) : List UInt8 := nat s.length ++ s
theorem rdT_txt {s : List UInt8} (hs : s.length < 18446744073709551616) (r : List UInt8) : rdT (txtB s ++ r) = some (s, r) := by
  unfold txtB
  rw [List.append_assoc]
  obtain ⟨h1, h2, h3⟩ := rd_nat' s.length (s ++ r) hs
  unfold rdT
  rw [h3, h1, if_neg (by rintro (e | e); exact h2 e; rw [List.length_append] at e; omega)]
  simp
theorem rdT_back {l s r : List UInt8} (h : rdT l = some (s, r)) : l = txtB s ++ r ∧ s.length < 18446744073709551616 := by
  unfold rdT at h
  split at h
  · cases h
  · rename_i hz
    injection h with h
    injection h with h1 h2
    have h3 : (rd l).2 ≠ 0 := fun e => hz (.inl e)
    have h4 : (rd l).1 ≤ (l.drop (rd l).2).length := by
      rcases Nat.lt_or_ge (l.drop (rd l).2).length (rd l).1 with e | e
      · exact absurd (.inr e) hz
      · exact e
    have h5 := rd_back h3
    have h6 : s.length = (rd l).1 := by rw [← h1, List.length_take]; omega
    refine ⟨?_, by rw [h6]; exact rd_lt l⟩
    unfold txtB
    rw [h6, ← h1, ← h2, List.append_assoc, List.take_append_drop]
    exact h5

/-- A blob of a store. -/
structure Bb where
  nm : List UInt8
  k : Ky
  b : Int
  p : Pg
  sz : Int
deriving DecidableEq
def entB (x : Bb) : List UInt8 := txtB x.nm ++ numsB [x.k.t, x.k.c, x.k.e, x.b, x.p.id, x.p.ver, x.sz]
def entsB (l : List Bb) : List UInt8 := l.flatMap entB
/-- The directory of some blobs. -/
def dirB (l : List Bb) : List UInt8 := nat l.length ++ entsB l
def Bb.wf (x : Bb) : Prop := x.nm.length < 18446744073709551616 ∧ x.k.wf ∧ i64ok x.b ∧ i64ok x.p.id ∧ i64ok x.p.ver ∧ i64ok x.sz
/-- The blob with its page's key. -/
def Bb.own (x : Bb) : Bb := { x with p := ⟨x.k, x.p.id, x.p.ver⟩ }
theorem Bb.own_of {x : Bb} (h : x.p.k = x.k) : x.own = x := by
  obtain ⟨nm, k, b, ⟨pk, id, ver⟩, sz⟩ := x
  dsimp only at h
  subst h
  rfl
def ofNums (nm : List UInt8) : List Int → Option Bb
  | [a, b, c, d, e, g, h] => some ⟨nm, ⟨a, b, c⟩, d, ⟨⟨a, b, c⟩, e, g⟩, h⟩
  | _ => none
def rdBl (l : List UInt8) : Option (Bb × List UInt8) := match rdT l with
  | none => none
  | some (nm, r) => match rdIs 7 r with
    | none => none
    | some (xs, r') => (ofNums nm xs).map fun x => (x, r')
theorem rdBl_ent {x : Bb} (hx : x.wf) (r : List UInt8) : rdBl (entB x ++ r) = some (x.own, r) := by
  obtain ⟨h1, h2, h3, h4, h5, h6⟩ := hx
  have e := rdIs_nums [x.k.t, x.k.c, x.k.e, x.b, x.p.id, x.p.ver, x.sz] r (fun y hy => by
    simp only [List.mem_cons, List.not_mem_nil, or_false] at hy
    rcases hy with rfl | rfl | rfl | rfl | rfl | rfl | rfl
    · exact h2.1
    · exact h2.2.1
    · exact h2.2.2
    · exact h3
    · exact h4
    · exact h5
    · exact h6)
  unfold rdBl entB
  rw [List.append_assoc, rdT_txt h1]
  dsimp only
  rw [show (7 : Nat) = ([x.k.t, x.k.c, x.k.e, x.b, x.p.id, x.p.ver, x.sz] : List Int).length from rfl, e]
  rfl
theorem rdBl_back {l r : List UInt8} {x : Bb} (h : rdBl l = some (x, r)) : l = entB x ++ r ∧ x.wf ∧ x.p.k = x.k := by
  unfold rdBl at h
  split at h
  · cases h
  · rename_i nm r1 h1
    split at h
    · cases h
    · rename_i xs r2 h2
      obtain ⟨a1, a2⟩ := rdT_back h1
      obtain ⟨b1, b2, b3⟩ := rdIs_back 7 r1 r2 xs h2
      match xs, b2, h with
      | [a, b, c, d, e, g, k], _, h =>
        simp only [ofNums, Option.map_some, Option.some.injEq, Prod.mk.injEq] at h
        obtain ⟨rfl, rfl⟩ := h
        refine ⟨?_, ⟨a2, ⟨b3 a (by simp), b3 b (by simp), b3 c (by simp)⟩, b3 d (by simp), b3 e (by simp), b3 g (by simp), b3 k (by simp)⟩, rfl⟩
        rw [a1, b1]
        unfold entB
        rw [List.append_assoc]
def rdBls : Nat → List UInt8 → Option (List Bb × List UInt8)
  | 0, l => some ([], l)
  | n + 1, l => match rdBl l with
    | none => none
    | some (x, r) => match rdBls n r with
      | none => none
      | some (xs, r') => some (x :: xs, r')
theorem rdBls_ents : ∀ (xs : List Bb) (r : List UInt8), (∀ x ∈ xs, x.wf) → rdBls xs.length (entsB xs ++ r) = some (xs.map Bb.own, r)
  | [], r, _ => rfl
  | x :: xs, r, h => by
    have e : entsB (x :: xs) ++ r = entB x ++ (entsB xs ++ r) := by simp [entsB]
    rw [e, List.length_cons, rdBls, rdBl_ent (h x (by simp))]
    dsimp only
    rw [rdBls_ents xs r fun y hy => h y (by simp [hy])]
    rfl
theorem rdBls_back : ∀ (n : Nat) (l r : List UInt8) (xs : List Bb), rdBls n l = some (xs, r) → l = entsB xs ++ r ∧ xs.length = n ∧ ∀ x ∈ xs, x.wf ∧ x.p.k = x.k
  | 0, l, r, xs, h => by
    injection h with h
    injection h with h1 h2
    subst h1 h2
    exact ⟨rfl, rfl, fun x hx => by cases hx⟩
  | n + 1, l, r, xs, h => by
    rw [rdBls] at h
    split at h
    · cases h
    · rename_i x r1 h1
      split at h
      · cases h
      · rename_i ys r2 h2
        injection h with h
        injection h with h3 h4
        subst h3 h4
        obtain ⟨a1, a2⟩ := rdBl_back h1
        obtain ⟨b1, b2, b3⟩ := rdBls_back n r1 r2 ys h2
        refine ⟨?_, by rw [List.length_cons, b2], fun y hy => ?_⟩
        · rw [a1, b1]; simp [entsB]
        · rcases List.mem_cons.1 hy with e | e
          · rw [e]; exact a2
          · exact b3 y e

/-- May a blob have this name? May a store have this blob, these blobs? -/
def nmOk (s : List UInt8) : Prop := s ≠ [] ∧ s.length ≤ 40
instance (s : List UInt8) : Decidable (nmOk s) := inferInstanceAs (Decidable (_ ∧ _))
def bbOk (x : Bb) : Prop := nmOk x.nm ∧ x.k.right ∧ x.p.k = x.k ∧ 0 ≤ x.p.id ∧ 0 ≤ x.p.ver ∧ 0 ≤ x.sz ∧ x.sz ≤ 65536 ∧ 2 ≤ x.b ∧ x.b ≤ 4095
instance (x : Bb) : Decidable (bbOk x) := inferInstanceAs (Decidable (_ ∧ _))
def apart (y x : Bb) : Prop := y.b ≠ x.b ∧ Op.bytesLess y.nm x.nm = true
instance (y x : Bb) : Decidable (apart y x) := inferInstanceAs (Decidable (_ ∧ _))
def Rgt (l : List Bb) : Prop := (∀ x ∈ l, bbOk x) ∧ l.Pairwise apart ∧ l.length ≤ 1000
instance (l : List Bb) : Decidable (Rgt l) := inferInstanceAs (Decidable (_ ∧ _))
/-- The blobs of a directory. -/
def parB (b : List UInt8) : Option (List Bb) := if (rd b).2 = 0 ∨ 1000 < (rd b).1 then none else match rdBls (rd b).1 (b.drop (rd b).2) with
  | none => none
  | some (l, r) => if r = [] ∧ Rgt l then some l else none
theorem parB_dir {l : List Bb} (hw : ∀ x ∈ l, x.wf) (hl : l.length < 18446744073709551616) : parB (dirB l) = if Rgt (l.map Bb.own) then some (l.map Bb.own) else none := by
  obtain ⟨h1, h2, h3⟩ := rd_nat' l.length (entsB l) hl
  unfold parB dirB
  rw [h3, h1]
  by_cases hk : 1000 < l.length
  · rw [if_pos (.inr hk), if_neg]
    rintro ⟨_, _, h⟩
    rw [List.length_map] at h
    omega
  · rw [if_neg (by rintro (e | e); exact h2 e; exact hk e)]
    have := rdBls_ents l [] hw
    rw [List.append_nil] at this
    rw [this]
    by_cases hr : Rgt (l.map Bb.own)
    · rw [if_pos hr]; exact if_pos ⟨rfl, hr⟩
    · rw [if_neg hr]; exact if_neg fun e => hr e.2
theorem own_all {l : List Bb} (h : ∀ x ∈ l, x.p.k = x.k) : l.map Bb.own = l := by
  conv => rhs; rw [← List.map_id l]
  exact List.map_congr_left fun x hx => Bb.own_of (h x hx)
theorem parB_right {l : List Bb} (hw : ∀ x ∈ l, x.wf) (hr : Rgt l) : parB (dirB l) = some l := by
  rw [parB_dir hw (by have := hr.2.2; omega), own_all fun x hx => (hr.1 x hx).2.2.1, if_pos hr]
theorem parB_back {b : List UInt8} {l : List Bb} (h : parB b = some l) : dirB l = b ∧ Rgt l ∧ ∀ x ∈ l, x.wf := by
  unfold parB at h
  split at h
  · cases h
  · rename_i hz
    have h3 : (rd b).2 ≠ 0 := fun e => hz (.inl e)
    split at h
    · cases h
    · rename_i xs r h1
      split at h
      · rename_i h2
        injection h with h
        subst h
        obtain ⟨a1, a2, a3⟩ := rdBls_back _ _ _ _ h1
        rw [h2.1, List.append_nil] at a1
        refine ⟨?_, h2.2, fun x hx => (a3 x hx).1⟩
        unfold dirB
        rw [a2, ← a1]
        exact (rd_back h3).symm
      · cases h
end Go.Proofs.YtolaojkcofbkhaaGreat
/- A store's calls as functions of the device, the vault, the cell and the blobs; what holds of its blobs; of no program. Nothing is assumed. What a plan of changes comes to; pages written one behind another; of no program. Nothing is assumed. What holds of a store behind commits, crashes and other hands; of no program. Nothing is assumed. Further of stores, of no program: how many blocks are free; the handle on a blob's block. Nothing is assumed. -/
namespace Go.Proofs.YtolaojkcofbkhaaGreat
open Go.RowKit

/-- A change. -/
structure Ch where
  nm : List UInt8
  k : Ky
  body : List UInt8
  drop : Bool
def without (L : List Bb) (nm : List UInt8) : List Bb := L.filter fun x => decide (x.nm ≠ nm)
def with_ : List Bb → Bb → List Bb
  | [], b => [b]
  | x :: r, b => if Op.bytesLess b.nm x.nm = true then b :: x :: r else x :: with_ r b
/-- The blocks that are free, rising. -/
def frs (n : Nat) (L : List Bb) : List Nat := (List.range' 2 (n - 2)).filter fun i => L.all fun x => decide (x.b ≠ (i : Int))
/-- What is wrong with changes. -/
def chBad (x : Ch) : Prop := ¬ nmOk x.nm ∨ ¬ x.k.right ∨ 65536 < x.body.length
instance (x : Ch) : Decidable (chBad x) := inferInstanceAs (Decidable (_ ∨ _))
def ckE (L : List Bb) (l : List Ch) : Int :=
  if (∃ x ∈ l, chBad x) ∨ ¬ (l.map Ch.nm).Nodup then 2 else if ∃ x ∈ l, x.drop = true ∧ ¬ x.nm ∈ L.map Bb.nm then 90 else 0
/-- What changes come to: the blobs, the Id that was given last, the blocks that are left, whether a key is destroyed, what is written. -/
structure Pl where
  nx : List Bb
  id : Nat
  fr : List Nat
  dead : Bool
  ws : List (Bb × List UInt8)
def newB (x : Ch) (f id ver : Nat) : Bb := ⟨x.nm, x.k, (f : Int), ⟨x.k, ((id + 1 : Nat) : Int), ((ver + 1 : Nat) : Int)⟩, (x.body.length : Int)⟩
def pl1 (G : List Ky) (ver : Nat) (s : Pl) (x : Ch) : Option Pl :=
  if x.drop = true then some { s with nx := without s.nx x.nm }
  else match s.fr with
    | [] => none
    | f :: r => some ⟨with_ (without s.nx x.nm) (newB x f s.id ver), s.id + 1, r, s.dead || decide (x.k ∈ G), s.ws ++ [(newB x f s.id ver, x.body)]⟩
def plan (G : List Ky) (ver : Nat) : List Ch → Pl → Option Pl
  | [], s => some s
  | x :: r, s => (pl1 G ver s x).bind (plan G ver r)
/-- Pages written one behind another, up to the first error. -/
def wrs : List (Bb × List UInt8) → St → Va → Int × St × Va
  | [], d, v => (0, d, v)
  | (b, t) :: r, d, v => if pwE d v b.b b.p t.length ≠ 0 then (pwE d v b.b b.p t.length, pwD d v b.b b.p t.length, pwV d v b.b b.p t) else wrs r (pwD d v b.b b.p t.length) (pwV d v b.b b.p t)
/-- A store and what it stands on. -/
structure Sr where
  d : St
  v : Va
  c : Ce
  L : List Bb
  dn : Bool
def planS (s : Sr) (l : List Ch) : Option Pl := plan s.v.G s.c.ver l ⟨s.L, s.v.L.length, frs s.d.n s.L, false, []⟩
/-- Commit: the error, the store behind it. -/
def cmS (s : Sr) (l : List Ch) : Int × Sr :=
  if s.dn = true then (40, s)
  else if ckE s.L l ≠ 0 then (ckE s.L l, s)
  else match planS s l with
    | none => (60, s)
    | some p =>
      if 1000 < p.nx.length ∨ 65536 < (dirB p.nx).length then (60, s)
      else if p.dead = true then (50, s)
      else
        let w := wrs p.ws s.d s.v
        if w.1 ≠ 0 then (w.1, ⟨w.2.1, w.2.2, s.c, s.L, true⟩)
        else
          let n := (dirB p.nx).length
          if ptE w.2.1 w.2.2 s.c n ≠ 0 then (ptE w.2.1 w.2.2 s.c n, ⟨ptD w.2.1 w.2.2 s.c n, ptV w.2.1 w.2.2 s.c (dirB p.nx), ptC w.2.1 w.2.2 s.c n, s.L, true⟩)
          else (0, ⟨ptD w.2.1 w.2.2 s.c n, ptV w.2.1 w.2.2 s.c (dirB p.nx), ptC w.2.1 w.2.2 s.c n, p.nx, false⟩)
/-- Open: the error, the blobs. -/
def soE (d : St) (v : Va) (c : Ce) : Int :=
  if d.n < 2 then 2 else if gtE d v c = 90 then 0 else if gtE d v c ≠ 0 then gtE d v c else match parB (gtB d v c) with
    | none => 91
    | some l => if ∀ x ∈ l, x.b < d.n then 0 else 91
def soL (d : St) (v : Va) (c : Ce) : List Bb := if gtE d v c = 90 then [] else (parB (gtB d v c)).getD []
/-- Get: the error, the bytes. -/
def sgE (d : St) (v : Va) (L : List Bb) (nm : List UInt8) : Int := match L.find? fun x => decide (x.nm = nm) with
  | none => 90
  | some x => if prE d v x.b x.p = 0 ∧ ((prB d v x.b x.p).length : Int) ≠ x.sz then 51 else prE d v x.b x.p
def sgB (d : St) (v : Va) (L : List Bb) (nm : List UInt8) : List UInt8 := match L.find? fun x => decide (x.nm = nm) with
  | none => []
  | some x => if prE d v x.b x.p = 0 ∧ ((prB d v x.b x.p).length : Int) ≠ x.sz then [] else prB d v x.b x.p

/-- Names rise. -/
def risen (y x : Bb) : Prop := Op.bytesLess y.nm x.nm = true
theorem without_mem {L : List Bb} {nm : List UInt8} {x : Bb} : x ∈ without L nm ↔ x ∈ L ∧ x.nm ≠ nm := by unfold without; rw [List.mem_filter]; simp
theorem with_mem {b : Bb} : ∀ {L : List Bb} {x : Bb}, x ∈ with_ L b ↔ x = b ∨ x ∈ L
  | [], x => by simp [with_]
  | y :: r, x => by
    rw [with_]
    split
    · simp
    · rw [List.mem_cons, with_mem, List.mem_cons]
      constructor
      · rintro (h | h | h)
        · exact .inr (.inl h)
        · exact .inl h
        · exact .inr (.inr h)
      · rintro (h | h | h)
        · exact .inr (.inl h)
        · exact .inl h
        · exact .inr (.inr h)
theorem with_len (b : Bb) : ∀ L : List Bb, (with_ L b).length = L.length + 1
  | [] => rfl
  | y :: r => by
    rw [with_]
    split
    · rfl
    · rw [List.length_cons, with_len b r, List.length_cons]
theorem without_risen {L : List Bb} (h : L.Pairwise risen) (nm : List UInt8) : (without L nm).Pairwise risen := h.filter _
theorem with_risen {b : Bb} : ∀ {L : List Bb}, L.Pairwise risen → (∀ x ∈ L, x.nm ≠ b.nm) → (with_ L b).Pairwise risen
  | [], _, _ => by rw [with_]; exact List.pairwise_singleton _ _
  | y :: r, h, hn => by
    obtain ⟨h1, h2⟩ := List.pairwise_cons.1 h
    rw [with_]
    split
    · rename_i hl
      refine List.pairwise_cons.2 ⟨fun x hx => ?_, h⟩
      rcases List.mem_cons.1 hx with e | e
      · subst e; exact hl
      · exact less_trans hl (h1 x e)
    · rename_i hl
      refine List.pairwise_cons.2 ⟨fun x hx => ?_, with_risen h2 fun x hx => hn x (by simp [hx])⟩
      rcases with_mem.1 hx with e | e
      · subst e
        exact less_tri (by simpa using hl) fun e => hn y (by simp) e.symm
      · exact h1 x e
theorem risen_ne {L : List Bb} (h : L.Pairwise risen) : ∀ {x y : Bb}, x ∈ L → y ∈ L → x.nm = y.nm → x = y := by
  induction L with
  | nil => intro x y hx; cases hx
  | cons z r ih =>
    obtain ⟨h1, h2⟩ := List.pairwise_cons.1 h
    intro x y hx hy he
    rcases List.mem_cons.1 hx with e | e <;> rcases List.mem_cons.1 hy with e' | e'
    · rw [e, e']
    · subst e; exact absurd he (less_ne (h1 y e'))
    · subst e'; exact absurd he.symm (less_ne (h1 x e))
    · exact ih h2 e e' he
theorem frs_mem {n : Nat} {L : List Bb} {i : Nat} : i ∈ frs n L ↔ (2 ≤ i ∧ i < n) ∧ ∀ x ∈ L, x.b ≠ (i : Int) := by
  unfold frs
  rw [List.mem_filter, List.mem_range'_1, List.all_eq_true]
  constructor
  · rintro ⟨⟨a, b⟩, c⟩
    exact ⟨⟨a, by omega⟩, fun x hx => by simpa using c x hx⟩
  · rintro ⟨⟨a, b⟩, c⟩
    exact ⟨⟨a, by omega⟩, fun x hx => by simpa using c x hx⟩
theorem frs_nodup (n : Nat) (L : List Bb) : (frs n L).Nodup := (List.nodup_range').filter _
theorem frs_rise (n : Nat) (L : List Bb) : (frs n L).Pairwise (· < ·) := (List.pairwise_lt_range').filter _
theorem find_name {L : List Bb} (h : L.Pairwise risen) {x : Bb} (hx : x ∈ L) : L.find? (fun y => decide (y.nm = x.nm)) = some x := by
  cases hf : L.find? (fun y => decide (y.nm = x.nm)) with
  | none =>
    have := List.find?_eq_none.1 hf x hx
    simp at this
  | some y =>
    have h1 := List.find?_some hf
    have h2 := List.mem_of_find?_eq_some hf
    rw [risen_ne h h2 hx (by simpa using h1)]
end Go.Proofs.YtolaojkcofbkhaaGreat
/- What a plan of changes comes to; pages written one behind another; of no program. Nothing is assumed. -/
namespace Go.Proofs.YtolaojkcofbkhaaGreat
open Go.RowKit

/-- Changes upon what there is. -/
def ap1 (hv : List Ch) (x : Ch) : List Ch := if x.drop = true then hv.filter (fun y => decide (y.nm ≠ x.nm)) else hv.filter (fun y => decide (y.nm ≠ x.nm)) ++ [x]
def applied (hv l : List Ch) : List Ch := l.foldl ap1 hv
/-- Behind the changes l1 of a plan. -/
structure PI (L : List Bb) (F : List Nat) (id0 ver : Nat) (G : List Ky) (hv l1 : List Ch) (s : Pl) : Prop where
  rise : s.nx.Pairwise risen
  inj : ∀ x ∈ s.nx, ∀ y ∈ s.nx, x.b = y.b → x = y
  fr : s.ws.map (fun w => w.1.b.toNat) ++ s.fr = F
  id : s.id = id0 + s.ws.length
  wl : s.ws.length ≤ l1.length
  seq : s.ws.map (fun w => (w.1.nm, w.2)) = (l1.filter fun x => !x.drop).map fun x => (x.nm, x.body)
  ws : ∀ j b t, s.ws[j]? = some (b, t) → ∃ x f, x ∈ l1 ∧ x.drop = false ∧ b = newB x f (id0 + j) ver ∧ t = x.body ∧ f ∈ F
  mem : ∀ b ∈ s.nx, (b ∈ L ∧ b.nm ∉ l1.map Ch.nm) ∨ ∃ t, (b, t) ∈ s.ws
  old : ∀ b ∈ L, b.nm ∉ l1.map Ch.nm → b ∈ s.nx
  new : ∀ b t, (b, t) ∈ s.ws → b ∈ s.nx
  dead : s.dead = false → ∀ b t, (b, t) ∈ s.ws → b.k ∉ G
  pm : ((applied hv l1).map Ch.nm).Perm (s.nx.map Bb.nm)
  rel : ∀ y ∈ applied hv l1, ∃ b ∈ s.nx, b.nm = y.nm ∧ ((b ∈ L ∧ y ∈ hv) ∨ ((b, y.body) ∈ s.ws ∧ b.k = y.k))
theorem ap1_sub {hv : List Ch} {x y : Ch} (h : y ∈ ap1 hv x) : (y ∈ hv ∧ y.nm ≠ x.nm) ∨ (y = x ∧ x.drop = false) := by
  unfold ap1 at h
  split at h
  · rw [List.mem_filter] at h
    exact .inl ⟨h.1, by simpa using h.2⟩
  · rename_i hd
    rw [List.mem_append, List.mem_filter, List.mem_singleton] at h
    rcases h with h | h
    · exact .inl ⟨h.1, by simpa using h.2⟩
    · exact .inr ⟨h, by simpa using hd⟩
theorem applied_snoc (hv l : List Ch) (x : Ch) : applied hv (l ++ [x]) = ap1 (applied hv l) x := by unfold applied; rw [List.foldl_append]; rfl
theorem with_perm (b : Bb) : ∀ L : List Bb, ((with_ L b).map Bb.nm).Perm (b.nm :: L.map Bb.nm)
  | [] => List.Perm.refl _
  | y :: r => by
    rw [with_]
    split
    · exact List.Perm.refl _
    · exact ((with_perm b r).cons _).trans (List.Perm.swap _ _ _)
theorem filter_nm (L : List Bb) (nm : List UInt8) : (without L nm).map Bb.nm = (L.map Bb.nm).filter (fun z => decide (z ≠ nm)) := by
  unfold without
  rw [List.filter_map]
  rfl
theorem filter_cn (L : List Ch) (nm : List UInt8) : (L.filter fun y => decide (y.nm ≠ nm)).map Ch.nm = (L.map Ch.nm).filter (fun z => decide (z ≠ nm)) := by
  rw [List.filter_map]
  rfl
theorem PI.init {L : List Bb} {hv : List Ch} {F : List Nat} {id0 ver : Nat} {G : List Ky} (hr : L.Pairwise risen) (hi : ∀ x ∈ L, ∀ y ∈ L, x.b = y.b → x = y) (hp : (hv.map Ch.nm).Perm (L.map Bb.nm)) (hrel : ∀ y ∈ hv, ∃ b ∈ L, b.nm = y.nm) :
    PI L F id0 ver G hv [] ⟨L, id0, F, false, []⟩ :=
  ⟨hr, hi, rfl, rfl, Nat.le_refl _, rfl, fun j b t h => by simp at h, fun b hb => .inl ⟨hb, by simp⟩, fun b hb _ => hb, fun b t h => (by cases h), fun _ b t h => (by cases h), hp, fun y hy => by
    obtain ⟨b, h1, h2⟩ := hrel y hy
    exact ⟨b, h1, h2, .inl ⟨h1, hy⟩⟩⟩
theorem PI.step {L : List Bb} {hv l1 : List Ch} {F : List Nat} {id0 ver : Nat} {G : List Ky} {s s' : Pl} {x : Ch} (h : PI L F id0 ver G hv l1 s) (hF : F.Nodup) (hFL : ∀ f ∈ F, ∀ b ∈ L, b.b ≠ (f : Int)) (hx : x.nm ∉ l1.map Ch.nm) (hs : pl1 G ver s x = some s') : PI L F id0 ver G hv (l1 ++ [x]) s' := by
  have hl1 : ∀ z, z ∉ (l1 ++ [x]).map Ch.nm ↔ z ∉ l1.map Ch.nm ∧ z ≠ x.nm := by
    intro z
    rw [List.map_append, List.mem_append]
    simp only [List.map_cons, List.map_nil, List.mem_singleton, not_or]
  have hwn : ∀ b t, (b, t) ∈ s.ws → b.nm ≠ x.nm := by
    intro b t hb e
    obtain ⟨j, hj⟩ := List.mem_iff_getElem?.1 hb
    obtain ⟨y, f, h1, _, h2, _⟩ := h.ws j b t hj
    apply hx
    rw [← e, h2]
    exact List.mem_map_of_mem h1
  unfold pl1 at hs
  by_cases hd : x.drop = true
  · rw [if_pos hd] at hs
    injection hs with hs
    subst hs
    refine ⟨without_risen h.rise _, fun a ha b hb => h.inj a (without_mem.1 ha).1 b (without_mem.1 hb).1, h.fr, h.id, by have := h.wl; rw [List.length_append]; simp only []; omega, by rw [List.filter_append, List.map_append, ← h.seq]; simp [hd], fun j b t hj => ?_, fun b hb => ?_, fun b hb hn => ?_, fun b t hb => ?_, h.dead, ?_, fun y hy => ?_⟩
    · obtain ⟨y, f, h1, h2⟩ := h.ws j b t hj
      exact ⟨y, f, List.mem_append_left _ h1, h2⟩
    · obtain ⟨h1, h2⟩ := without_mem.1 hb
      rcases h.mem b h1 with ⟨a1, a2⟩ | h3
      · exact .inl ⟨a1, (hl1 _).2 ⟨a2, h2⟩⟩
      · exact .inr h3
    · obtain ⟨h1, h2⟩ := (hl1 _).1 hn
      exact without_mem.2 ⟨h.old b hb h1, h2⟩
    · exact without_mem.2 ⟨h.new b t hb, hwn b t hb⟩
    · rw [applied_snoc, ap1, if_pos hd, filter_cn, filter_nm]
      exact h.pm.filter _
    · rw [applied_snoc] at hy
      rcases ap1_sub hy with ⟨y1, y2⟩ | ⟨_, y2⟩
      · obtain ⟨b, b1, b2, b3⟩ := h.rel y y1
        exact ⟨b, without_mem.2 ⟨b1, by rw [b2]; exact y2⟩, b2, b3⟩
      · rw [hd] at y2; cases y2
  · rw [if_neg hd] at hs
    have hd' : x.drop = false := by simpa using hd
    split at hs
    · cases hs
    · rename_i f r hfr
      injection hs with hs
      have hfF : f ∈ F := by rw [← h.fr, hfr]; simp
      have hfnot : ∀ b ∈ s.nx, b.b ≠ (f : Int) := by
        intro b hb e
        rcases h.mem b hb with ⟨h1, _⟩ | ⟨t, h1⟩
        · exact hFL f hfF b h1 e
        · have h2 : f ∈ s.ws.map (fun w => w.1.b.toNat) := List.mem_map.2 ⟨(b, t), h1, by show b.b.toNat = f; rw [e]; simp⟩
          have h3 : (s.ws.map (fun w => w.1.b.toNat) ++ s.fr).Nodup := by rw [h.fr]; exact hF
          rw [hfr] at h3
          exact (List.nodup_append.1 h3).2.2 f h2 f (by simp) rfl
      have hnb : (newB x f s.id ver).nm = x.nm := rfl
      have hbb : (newB x f s.id ver).b = (f : Int) := rfl
      have hid := h.id
      subst hs
      refine ⟨with_risen (without_risen h.rise _) fun y hy => (without_mem.1 hy).2, ?_, ?_, ?_, by have := h.wl; rw [List.length_append, List.length_append]; simp only [List.length_cons, List.length_nil]; omega, by rw [List.filter_append, List.map_append, List.map_append, ← h.seq]; simp [hd', newB], fun j b t hj => ?_, fun b hb => ?_, fun b hb hn => ?_, fun b t hb => ?_, fun hdd b t hb => ?_, ?_, fun y hy => ?_⟩
      · intro a ha b hb e
        rcases with_mem.1 ha with h1 | h1 <;> rcases with_mem.1 hb with h2 | h2
        · rw [h1, h2]
        · rw [h1, hbb] at e
          exact absurd e.symm (hfnot b (without_mem.1 h2).1)
        · rw [h2, hbb] at e
          exact absurd e (hfnot a (without_mem.1 h1).1)
        · exact h.inj a (without_mem.1 h1).1 b (without_mem.1 h2).1 e
      · dsimp only
        rw [List.map_append, List.append_assoc, ← h.fr, hfr]
        simp [newB]
      · dsimp only
        rw [List.length_append, hid]
        simp
        omega
      · dsimp only at hj
        rcases Nat.lt_or_ge j s.ws.length with hk | hk
        · rw [List.getElem?_append_left hk] at hj
          obtain ⟨y, g, h1, h2⟩ := h.ws j b t hj
          exact ⟨y, g, List.mem_append_left _ h1, h2⟩
        · rw [List.getElem?_append_right hk] at hj
          have hk0 : j = s.ws.length := by
            have := (List.getElem?_eq_some_iff.1 hj).1
            simp at this
            omega
          subst hk0
          rw [Nat.sub_self] at hj
          injection hj with hj
          injection hj with e1 e2
          exact ⟨x, f, by simp, hd', by rw [← e1, hid], e2.symm, hfF⟩
      · rcases with_mem.1 hb with e | e
        · exact .inr ⟨x.body, by rw [e]; simp⟩
        · obtain ⟨h1, h2⟩ := without_mem.1 e
          rcases h.mem b h1 with ⟨a1, a2⟩ | ⟨t, h3⟩
          · exact .inl ⟨a1, (hl1 _).2 ⟨a2, h2⟩⟩
          · exact .inr ⟨t, List.mem_append_left _ h3⟩
      · obtain ⟨h1, h2⟩ := (hl1 _).1 hn
        exact with_mem.2 (.inr (without_mem.2 ⟨h.old b hb h1, h2⟩))
      · rcases List.mem_append.1 hb with e | e
        · exact with_mem.2 (.inr (without_mem.2 ⟨h.new b t e, hwn b t e⟩))
        · rw [List.mem_singleton] at e
          injection e with e1 e2
          exact with_mem.2 (.inl e1)
      · simp only [Bool.or_eq_false_iff, decide_eq_false_iff_not] at hdd
        rcases List.mem_append.1 hb with e | e
        · exact h.dead hdd.1 b t e
        · rw [List.mem_singleton] at e
          injection e with e1 e2
          rw [e1]
          exact hdd.2
      · rw [applied_snoc, ap1, if_neg hd, List.map_append, filter_cn]
        refine List.Perm.trans ?_ (with_perm _ _).symm
        rw [hnb, filter_nm]
        exact (List.perm_append_singleton _ _).trans ((h.pm.filter _).cons _)
      · rw [applied_snoc] at hy
        rcases ap1_sub hy with ⟨y1, y2⟩ | ⟨y1, _⟩
        · obtain ⟨b, b1, b2, b3⟩ := h.rel y y1
          refine ⟨b, with_mem.2 (.inr (without_mem.2 ⟨b1, by rw [b2]; exact y2⟩)), b2, ?_⟩
          rcases b3 with b3 | ⟨b3, b4⟩
          · exact .inl b3
          · exact .inr ⟨List.mem_append_left _ b3, b4⟩
        · subst y1
          exact ⟨_, with_mem.2 (.inl rfl), rfl, .inr ⟨by simp, rfl⟩⟩
theorem PI.plan {L : List Bb} {hv : List Ch} {F : List Nat} {id0 ver : Nat} {G : List Ky} (hF : F.Nodup) (hFL : ∀ f ∈ F, ∀ b ∈ L, b.b ≠ (f : Int)) : ∀ (l l1 : List Ch) (s p : Pl), PI L F id0 ver G hv l1 s → ((l1 ++ l).map Ch.nm).Nodup → plan G ver l s = some p → PI L F id0 ver G hv (l1 ++ l) p
  | [], l1, s, p, h, _, hp => by
    rw [Go.Proofs.YtolaojkcofbkhaaGreat.plan] at hp
    injection hp with hp
    subst hp
    rw [List.append_nil]
    exact h
  | x :: r, l1, s, p, h, hn, hp => by
    rw [Go.Proofs.YtolaojkcofbkhaaGreat.plan] at hp
    cases h1 : pl1 G ver s x with
    | none => rw [h1] at hp; cases hp
    | some s1 =>
      rw [h1] at hp
      have hx : x.nm ∉ l1.map Ch.nm := by
        rw [List.map_append, List.nodup_append] at hn
        intro e
        exact hn.2.2 _ e _ (by simp) rfl
      have h2 := h.step hF hFL hx h1
      have h3 := PI.plan hF hFL r (l1 ++ [x]) s1 p h2 (by rw [List.append_assoc]; exact hn) hp
      rw [List.append_assoc] at h3
      exact h3

/-- What is written, as the document tells it: of each change the blob of its name. -/
def wsOf (nx : List Bb) (l : List Ch) : List (Bb × List UInt8) := l.flatMap fun x => (nx.filter fun b => decide (b.nm = x.nm)).map fun b => (b, x.body)
theorem filter_one {L : List Bb} (h : L.Pairwise risen) {b : Bb} (hb : b ∈ L) : (L.filter fun y => decide (y.nm = b.nm)) = [b] := by
  induction L with
  | nil => cases hb
  | cons z r ih =>
    obtain ⟨h1, h2⟩ := List.pairwise_cons.1 h
    rcases List.mem_cons.1 hb with e | e
    · subst e
      rw [List.filter_cons_of_pos (by simp), List.filter_eq_nil_iff.2 fun y hy => ?_]
      have := less_ne (h1 y hy)
      simpa using fun e => this e.symm
    · rw [List.filter_cons_of_neg, ih h2 e]
      have := less_ne (h1 b e)
      simpa using this
theorem filter_none {L : List Bb} {nm : List UInt8} (h : ∀ b ∈ L, b.nm ≠ nm) : (L.filter fun y => decide (y.nm = nm)) = [] := List.filter_eq_nil_iff.2 fun y hy => by simpa using h y hy
theorem wsOf_is {nx : List Bb} (hr : nx.Pairwise risen) : ∀ (l : List Ch) (ws : List (Bb × List UInt8)), ws.map (fun w => (w.1.nm, w.2)) = (l.filter fun x => !x.drop).map (fun x => (x.nm, x.body)) → (∀ w ∈ ws, w.1 ∈ nx) → (∀ x ∈ l, x.drop = true → ∀ b ∈ nx, b.nm ≠ x.nm) → wsOf nx l = ws
  | [], ws, h, _, _ => by
    have : ws = [] := by simpa using h
    subst this
    rfl
  | x :: r, ws, h, hm, hd => by
    have e0 : wsOf nx (x :: r) = (nx.filter fun b => decide (b.nm = x.nm)).map (fun b => (b, x.body)) ++ wsOf nx r := rfl
    rw [e0]
    by_cases hx : x.drop = true
    · rw [filter_none (hd x (by simp) hx)]
      rw [List.filter_cons_of_neg (by simp [hx])] at h
      show [] ++ wsOf nx r = ws
      rw [List.nil_append]
      exact wsOf_is hr r ws h hm fun y hy => hd y (by simp [hy])
    · have hx' : x.drop = false := by simpa using hx
      rw [List.filter_cons_of_pos (by simp [hx']), List.map_cons] at h
      cases ws with
      | nil => cases h
      | cons w ws =>
        obtain ⟨b, t⟩ := w
        rw [List.map_cons] at h
        injection h with h1 h2
        injection h1 with h3 h4
        dsimp only at h3 h4
        subst h4
        have hb := hm (b, x.body) (by simp)
        rw [← h3, filter_one hr hb, wsOf_is hr r ws h2 (fun w hw => hm w (by simp [hw])) fun y hy => hd y (by simp [hy])]
        rfl
theorem PI.wsOf_ {L : List Bb} {F : List Nat} {id0 ver : Nat} {G : List Ky} {hv l : List Ch} {p : Pl} (h : PI L F id0 ver G hv l p) (hn : (l.map Ch.nm).Nodup) : wsOf p.nx l = p.ws := by
  refine wsOf_is h.rise l p.ws h.seq (fun w hw => h.new w.1 w.2 hw) fun x hx hd b hb e => ?_
  rcases h.mem b hb with ⟨_, h1⟩ | ⟨t, h1⟩
  · exact h1 (by rw [e]; exact List.mem_map_of_mem hx)
  · obtain ⟨j, hj⟩ := List.mem_iff_getElem?.1 h1
    obtain ⟨y, f, y1, y2, y3, _⟩ := h.ws j b t hj
    have e2 : y.nm = x.nm := by rw [y3] at e; exact e
    have e3 : y = x := by
      obtain ⟨a, ha⟩ := List.mem_iff_getElem?.1 y1
      obtain ⟨c, hc⟩ := List.mem_iff_getElem?.1 hx
      obtain ⟨ha', rfl⟩ := List.getElem?_eq_some_iff.1 ha
      obtain ⟨hc', rfl⟩ := List.getElem?_eq_some_iff.1 hc
      have hq := List.pairwise_iff_getElem.1 hn
      rcases Nat.lt_trichotomy a c with hlt | heq | hgt
      · exact absurd (by rw [List.getElem_map, List.getElem_map]; exact e2) (hq a c (by simpa using ha') (by simpa using hc') hlt)
      · subst heq; rfl
      · exact absurd (by rw [List.getElem_map, List.getElem_map]; exact e2.symm) (hq c a (by simpa using hc') (by simpa using ha') hgt)
    rw [e3, hd] at y2
    cases y2
/-- Nothing of this name is there. -/
theorem without_len {L : List Bb} {nm : List UInt8} : (without L nm).length = L.length ↔ ¬ nm ∈ L.map Bb.nm := by
  unfold without
  rw [List.length_filter_eq_length_iff]
  constructor
  · intro h e
    obtain ⟨x, hx, rfl⟩ := List.mem_map.1 e
    have := h x hx
    simp at this
  · intro h x hx
    rw [decide_eq_true_eq]
    rintro rfl
    exact h (List.mem_map_of_mem hx)
/-- What pages that are written one behind another leave. -/
structure WR (d : St) (v : Va) (ws : List (Bb × List UInt8)) (d' : St) (v' : Va) : Prop where
  K : d'.K = d.K
  n : d'.n = d.n
  W : ∀ x ∈ d'.W, x ∈ d.W ∨ ∃ w ∈ ws, w.1.b = (x.1 : Int)
  vo : ∀ i : Nat, (∀ w ∈ ws, w.1.b ≠ (i : Int)) → app d'.W d'.K i = app d.W d.K i
  V : ∃ E, v'.L = v.L ++ E ∧ E.length ≤ ws.length
  Wl : d'.W.length ≤ d.W.length + ws.length
def entW (w : Bb × List UInt8) : En := ⟨w.1.p.k, besd w.1.p w.1.b, w.2⟩
/-- Pages that may be written so. -/
def WsOk (n m : Nat) (ws : List (Bb × List UInt8)) : Prop := (∀ j b t, ws[j]? = some (b, t) → b.p.wf ∧ b.p.k.right ∧ b.p.id = ((m + j + 1 : Nat) : Int) ∧ t.length ≤ 65536 ∧ ∃ i : Nat, b.b = (i : Int) ∧ 2 ≤ i ∧ i < n ∧ i ≤ 4096) ∧ (ws.map fun w => w.1.b).Nodup
theorem WsOk.tail {n m : Nat} {w : Bb × List UInt8} {ws : List (Bb × List UInt8)} (h : WsOk n m (w :: ws)) : WsOk n (m + 1) ws := by
  refine ⟨fun j b t hj => ?_, (List.nodup_cons.1 h.2).2⟩
  obtain ⟨h1, h2, h3, h4⟩ := h.1 (j + 1) b t hj
  exact ⟨h1, h2, by rw [h3]; congr 1; omega, h4⟩
theorem wrs_ok {c : Ce} {now : List UInt8} {laid : Bool} : ∀ (ws : List (Bb × List UInt8)) (d : St) (v : Va), Rt d v c now laid → WsOk d.n v.L.length ws → v.L.length + ws.length ≤ 1000000 →
    ((wrs ws d v).1 = 0 ∨ (wrs ws d v).1 = 40) ∧ Rt (wrs ws d v).2.1 (wrs ws d v).2.2 c now laid ∧ WR d v ws (wrs ws d v).2.1 (wrs ws d v).2.2 ∧ (d.lim = none → (wrs ws d v).1 = 0 ∧ (wrs ws d v).2.1.lim = none) ∧
    ((wrs ws d v).1 = 0 → (wrs ws d v).2.2.L = v.L ++ ws.map entW ∧ ∀ w ∈ ws, app (wrs ws d v).2.1.W (wrs ws d v).2.1.K w.1.b.toNat = pad (le8 w.1.p.id.toNat))
  | [], d, v, h, _, _ => ⟨.inl rfl, h, ⟨rfl, rfl, fun x hx => .inl hx, fun _ _ => rfl, ⟨[], by simp [wrs], by simp⟩, by simp [wrs]⟩, fun ho => ⟨rfl, ho⟩, fun _ => ⟨by simp [wrs], fun w hw => by cases hw⟩⟩
  | (b, t) :: r, d, v, h, hw, hm => by
    obtain ⟨b1, b2, b3, b4, i, b5, b6, b7, b8⟩ := hw.1 0 b t rfl
    rw [Nat.add_zero] at b3
    obtain ⟨e1, e2, e3⟩ := pw_parts b7 b2 h.G b4
    have hR := h.pw b1 b2 b3 b6 b7 b8 b4
    rw [wrs, b5]
    by_cases ho : caE d ≠ 0
    · rw [e1, if_pos ho]
      have hlim := caE_off ho
      rw [if_pos hlim] at e2
      dsimp only
      have hE : caE d = 40 := by
        rcases caE_is d with e | e
        · exact absurd e ho
        · exact e
      refine ⟨.inr hE, hR, ?_, fun hn => ?_, fun e => absurd e ho⟩
      · rw [e2, e3]
        exact ⟨rfl, rfl, fun x hx => .inl hx, fun _ _ => rfl, ⟨_, rfl, by simp⟩, by omega⟩
      · rw [hlim] at hn; cases hn
    · have ho' : caE d = 0 := Classical.byContradiction ho
      rw [e1, if_neg ho]
      have hno := caE_on ho'
      rw [if_neg hno] at e2
      have hlen : (pwV d v (i : Int) b.p t).L.length = v.L.length + 1 := by rw [e3]; simp
      have hn1 : (pwD d v (i : Int) b.p t.length).n = d.n := pwD_n _ _ _ _ _
      obtain ⟨i1, i2, i3, i4, i5⟩ := wrs_ok r (pwD d v (i : Int) b.p t.length) (pwV d v (i : Int) b.p t) hR (by rw [hn1, hlen]; exact hw.tail) (by rw [hlen]; simp only [List.length_cons] at hm; omega)
      generalize wrs r (pwD d v (i : Int) b.p t.length) (pwV d v (i : Int) b.p t) = R at *
      have hK1 : (pwD d v (i : Int) b.p t.length).K = d.K := by rw [e2]; rfl
      have hW1 : (pwD d v (i : Int) b.p t.length).W = d.W ++ [(i, pad (le8 (v.L.length + 1)))] := by rw [e2]; rfl
      have hnot : ∀ w ∈ r, w.1.b ≠ (i : Int) := by
        intro w hw' e
        have := (List.nodup_cons.1 hw.2).1
        exact this (List.mem_map.2 ⟨w, hw', e.trans b5.symm⟩)
      refine ⟨i1, i2, ⟨i3.K.trans hK1, i3.n.trans hn1, fun x hx => ?_, fun q hq => ?_, ?_, ?_⟩, fun hn => i4 (by rw [e2]; show d.lim.map _ = none; rw [hn]; rfl), fun e => ?_⟩
      · rcases i3.W x hx with e | ⟨w, e4, e5⟩
        · rw [hW1] at e
          rcases List.mem_append.1 e with e | e
          · exact .inl e
          · rw [List.mem_singleton] at e
            exact .inr ⟨(b, t), by simp, by rw [b5, e]⟩
        · exact .inr ⟨w, by simp [e4], e5⟩
      · rw [i3.vo q fun w hw' => hq w (by simp [hw']), hW1, hK1, app_snoc]
        have : (q : Int) ≠ (i : Int) := fun e => hq (b, t) (by simp) (by rw [b5, e])
        exact upd_other _ _ (by omega)
      · obtain ⟨E, h1, h2⟩ := i3.V
        exact ⟨⟨b.p.k, besd b.p (i : Int), t⟩ :: E, by rw [h1, e3]; simp, by simp; omega⟩
      · have := i3.Wl
        rw [hW1] at this
        simp only [List.length_append, List.length_cons, List.length_nil] at this ⊢
        omega
      · obtain ⟨h1, h2⟩ := i5 e
        refine ⟨by rw [h1, e3]; simp [entW, b5], fun w hw' => ?_⟩
        rcases List.mem_cons.1 hw' with e' | e'
        · subst e'
          rw [show ((b, t) : Bb × List UInt8).1.b.toNat = i by show b.b.toNat = i; rw [b5]; simp, i3.vo i hnot, hW1, hK1, app_snoc, upd_same]
          show _ = pad (le8 b.p.id.toNat)
          rw [b3]
          simp
        · exact h2 w e'
end Go.Proofs.YtolaojkcofbkhaaGreat

/- What holds of a store behind commits, crashes and other hands; of no program. Nothing is assumed. -/
namespace Go.Proofs.YtolaojkcofbkhaaGreat
open Go.RowKit

/-- The bytes of a blob. -/
def Ent (v : Va) (x : Bb) (t : List UInt8) : Prop := 1 ≤ x.p.id ∧ v.L[x.p.id.toNat - 1]? = some ⟨x.k, besd x.p x.b, t⟩ ∧ (t.length : Int) = x.sz
theorem Ent.more {v v' : Va} {x : Bb} {t : List UInt8} {E : List En} (h : Ent v x t) (hv : v'.L = v.L ++ E) : Ent v' x t := by
  obtain ⟨h1, h2, h3⟩ := h
  have := (List.getElem?_eq_some_iff.1 h2).1
  exact ⟨h1, by rw [hv, List.getElem?_append_left this]; exact h2, h3⟩
/-- What a page that was sealed reads as, whatever lies on its block. -/
theorem pr_one {d : St} {v : Va} {p : Pg} {i : Nat} {t : List UInt8} (hi : i < d.n) (hi4 : i ≤ 4096) (hG : v.G = [])
    (hes : ∀ k x, v.L[k]? = some x → ∃ (p : Pg) (i : Int), p.wf ∧ i64ok i ∧ p.id = ((k + 1 : Nat) : Int) ∧ x.k = p.k ∧ x.b = besd p i)
    (hp : p.wf) (h1 : 1 ≤ p.id) (hx : v.L[p.id.toNat - 1]? = some ⟨p.k, besd p (i : Int), t⟩) :
    (prE d v (i : Int) p = 0 ∧ prB d v (i : Int) p = t) ∨ (prE d v (i : Int) p = 40 ∧ prB d v (i : Int) p = [] ∧ d.lim = some 0) ∨ (prE d v (i : Int) p = 51 ∧ prB d v (i : Int) p = [] ∧ hOf (app d.W d.K i) ≠ p.id.toNat) := by
  have hb : ¬ bad d (i : Int) 0 := by unfold bad; omega
  unfold prE prB
  by_cases ho : d.lim = some 0
  · have e1 : rdE d (i : Int) = 40 := by unfold rdE; rw [if_neg hb, if_pos ho]
    have c0 : rdE d (i : Int) ≠ 0 := by rw [e1]; decide
    rw [if_pos c0, if_pos c0, e1]
    exact .inr (.inl ⟨rfl, rfl, ho⟩)
  have e1 : rdE d (i : Int) = 0 := by unfold rdE; rw [if_neg hb, if_neg ho]
  have e2 : rdB d (i : Int) = app d.W d.K i := by
    unfold rdB
    rw [if_neg (by rintro (e | e); exact hb e; exact ho e), Int.toNat_natCast]
  have c0 : ¬ rdE d (i : Int) ≠ 0 := fun e => e e1
  rw [if_neg c0, if_neg c0, e2]
  have hg : ¬ p.k ∈ v.G := by rw [hG]; exact List.not_mem_nil
  by_cases hf : hOf (app d.W d.K i) = 0
  · rw [if_pos hf, if_pos hf]
    exact .inr (.inr ⟨rfl, rfl, by rw [hf]; omega⟩)
  rw [if_neg hf, if_neg hf]
  generalize hOf (app d.W d.K i) = hd at *
  unfold opE opB opX behind
  rw [if_neg hg, if_neg hg, if_neg hf]
  by_cases he : hd = p.id.toNat
  · subst he
    have hone : (if p.k = p.k ∧ besd p (i : Int) = besd p (i : Int) then some t else none) = some t := if_pos ⟨rfl, rfl⟩
    rw [hx]
    refine .inl ⟨?_, ?_⟩
    · show (if Option.isSome (if p.k = p.k ∧ besd p (i : Int) = besd p (i : Int) then some t else none) = true then (0 : Int) else 51) = 0
      rw [hone]; rfl
    · show (if p.k = p.k ∧ besd p (i : Int) = besd p (i : Int) then some t else none).getD [] = t
      rw [hone]; rfl
  · refine .inr (.inr ?_)
    cases hy : v.L[hd - 1]? with
    | none => exact ⟨rfl, rfl, he⟩
    | some x =>
      obtain ⟨q, j, q0, q1, q2, _, q3⟩ := hes _ x hy
      have hn : ¬ (x.k = p.k ∧ x.b = besd p (i : Int)) := by
        rintro ⟨_, e⟩
        rw [q3] at e
        obtain ⟨e4, _⟩ := besd_inj q0 hp q1 (show i64ok (i : Int) from ⟨by omega, by omega⟩) e
        have e5 : q.id = p.id := congrArg Pg.id e4
        omega
      have hnone : (if x.k = p.k ∧ x.b = besd p (i : Int) then some x.p else none) = none := if_neg hn
      refine ⟨?_, ?_, he⟩
      · show (if Option.isSome (if x.k = p.k ∧ x.b = besd p (i : Int) then some x.p else none) = true then (0 : Int) else 51) = 51
        rw [hnone]; rfl
      · show (if x.k = p.k ∧ x.b = besd p (i : Int) then some x.p else none).getD [] = []
        rw [hnone]; rfl

/-- A store that stands on a device, a vault and a cell: its blobs; whether another hand has laid something. -/
structure SI (d : St) (v : Va) (c : Ce) (L : List Bb) (laid : Bool) : Prop where
  rt : Rt d v c (dirB L) laid
  l0 : c.ver = 0 → L = []
  rg : Rgt L
  wf : ∀ x ∈ L, x.wf
  bl : ∀ x ∈ L, x.b < d.n
  n4 : d.n ≤ 4096
  en : ∀ x ∈ L, ∃ t, Ent v x t
  pv : ∀ x ∈ L, x.p.ver ≤ c.ver
  dv : laid = false → ∀ x ∈ L, d.K x.b.toNat = pad (le8 x.p.id.toNat) ∧ ∀ y ∈ d.W, (y.1 : Int) ≠ x.b
theorem SI.init {n : Nat} (h : 2 ≤ n) (h4 : n ≤ 4096) : SI (St.new n) Va.new ⟨0, 0⟩ [] false :=
  ⟨Rt.new h _, fun _ => rfl, ⟨fun x hx => (by cases hx), List.Pairwise.nil, by decide⟩, fun x hx => (by cases hx), fun x hx => (by cases hx), h4, fun x hx => (by cases hx), fun x hx => (by cases hx), fun _ x hx => (by cases hx)⟩
section
variable {d : St} {v : Va} {c : Ce} {L : List Bb} {laid : Bool}
theorem SI.blk (h : SI d v c L laid) {x : Bb} (hx : x ∈ L) : ∃ i : Nat, x.b = (i : Int) ∧ 2 ≤ i ∧ i < d.n ∧ i ≤ 4096 := by
  have h1 := (h.rg.1 x hx).2.2.2.2.2.2.2.1
  have h2 := h.bl x hx
  have := h.n4
  exact ⟨x.b.toNat, by omega, by omega, by omega, by omega⟩
theorem SI.crash (h : SI d v c L laid) (keep : List Bool) : SI (d.crash keep) v c L laid := by
  refine ⟨h.rt.crash keep, h.l0, h.rg, h.wf, h.bl, h.n4, h.en, h.pv, fun hl x hx => ⟨?_, fun y hy => by cases hy⟩⟩
  obtain ⟨h1, h2⟩ := h.dv hl x hx
  show app (ke d.W keep) d.K _ = _
  rw [app_out _ _ _ fun y hy => ?_]
  · exact h1
  · have := h2 y (ke_mem _ _ y hy)
    obtain ⟨i, e, _⟩ := h.blk hx
    omega
theorem SI.bound (h : SI d v c L laid) (i : Int) : SI (d.bound i) v c L laid := ⟨h.rt.bound i, h.l0, h.rg, h.wf, h.bl, h.n4, h.en, h.pv, h.dv⟩
theorem SI.over (h : SI d v c L laid) (i : Int) (l : List UInt8) : SI (ovS d i l) v c L true :=
  ⟨h.rt.over i l, h.l0, h.rg, h.wf, fun x hx => by rw [ovS_n]; exact h.bl x hx, by rw [ovS_n]; exact h.n4, h.en, h.pv, fun e => by cases e⟩
theorem SI.idle (h : SI d v c L laid) : SI d v c L true := ⟨⟨h.rt.n, h.rt.G, h.rt.es, h.rt.ver, h.rt.at_, fun e => by cases e⟩, h.l0, h.rg, h.wf, h.bl, h.n4, h.en, h.pv, fun e => by cases e⟩
/-- Opened: its blobs, or that it is off, or that it wasn't sealed so. -/
theorem SI.open_ (h : SI d v c L laid) (hL : v.L.length ≤ 1000000) : (soE d v c = 0 ∧ soL d v c = L) ∨ (soE d v c = 40 ∧ d.lim = some 0) ∨ (soE d v c = 51 ∧ laid = true) := by
  have hn : ¬ d.n < 2 := by have := h.rt.n; omega
  unfold soE soL
  rw [if_neg hn]
  rcases Nat.eq_zero_or_pos c.ver with hz | hz
  · have e : gtE d v c = 90 := if_pos hz
    rw [if_pos e, if_pos e]
    exact .inl ⟨rfl, (h.l0 hz).symm⟩
  rcases h.rt.got hL hz with ⟨e1, e2⟩ | ⟨e1, e2⟩ | ⟨e1, e2⟩
  · have c1 : ¬ gtE d v c = 90 := by rw [e1]; decide
    have c2 : ¬ gtE d v c ≠ 0 := fun e => e e1
    rw [if_neg c1, if_neg c2, if_neg c1, e2, parB_right h.wf h.rg]
    exact .inl ⟨if_pos h.bl, rfl⟩
  · have c1 : ¬ gtE d v c = 90 := by rw [e1]; decide
    have c2 : gtE d v c ≠ 0 := by rw [e1]; decide
    rw [if_neg c1, if_pos c2]
    exact .inr (.inl ⟨e1, e2⟩)
  · have c1 : ¬ gtE d v c = 90 := by rw [e1]; decide
    have c2 : gtE d v c ≠ 0 := by rw [e1]; decide
    rw [if_neg c1, if_pos c2]
    exact .inr (.inr ⟨e1, e2⟩)
/-- Got: its bytes, or that it is off, or that it wasn't sealed so. -/
theorem SI.get (h : SI d v c L laid) {x : Bb} (hx : x ∈ L) {t : List UInt8} (he : Ent v x t) : (sgE d v L x.nm = 0 ∧ sgB d v L x.nm = t) ∨ (sgE d v L x.nm = 40 ∧ d.lim = some 0) ∨ (sgE d v L x.nm = 51 ∧ laid = true) := by
  have hr : L.Pairwise risen := h.rg.2.1.imp fun e => e.2
  obtain ⟨i, e1, e2, e3, e4⟩ := h.blk hx
  obtain ⟨f1, f2, f3⟩ := he
  have hpk := (h.rg.1 x hx).2.2.1
  have hw := h.wf x hx
  have hpw : x.p.wf := ⟨by rw [hpk]; exact hw.2.1, hw.2.2.2.1, hw.2.2.2.2.1⟩
  rw [← hpk, e1] at f2
  have h1 := pr_one (d := d) e3 e4 h.rt.G h.rt.es hpw f1 f2
  unfold sgE sgB
  rw [find_name hr hx]
  dsimp only
  rw [e1]
  rcases h1 with ⟨a1, a2⟩ | ⟨a1, a2, a3⟩ | ⟨a1, a2, a3⟩
  · rw [a1, a2, if_neg (fun e => e.2 f3), if_neg (fun e => e.2 f3)]
    exact .inl ⟨rfl, rfl⟩
  · rw [a1, if_neg (fun e => absurd e.1 (by decide))]
    exact .inr (.inl ⟨rfl, a3⟩)
  · rw [a1, if_neg (fun e => absurd e.1 (by decide))]
    refine .inr (.inr ⟨rfl, ?_⟩)
    cases hl : laid with
    | true => rfl
    | false =>
      obtain ⟨k1, k2⟩ := h.dv hl x hx
      rw [e1, Int.toNat_natCast] at k1
      rw [app_out _ _ _ (fun y hy => by have := k2 y hy; rw [e1] at this; omega), k1, hOf_le8 _ ?_] at a3
      · exact absurd rfl a3
      · have := hpw.2.1.2; omega
/-- Blocks that are no root's, behind a Put. -/
theorem pt_else (hn : 2 ≤ d.n) (hG : v.G = []) {l : List UInt8} (hl : l.length ≤ 65536) {i : Nat} (hi : 2 ≤ i) (hW : ∀ y ∈ d.W, y.1 ≠ i) :
    (ptD d v c l.length).K i = d.K i ∧ ∀ y ∈ (ptD d v c l.length).W, y.1 ≠ i := by
  obtain ⟨p1, p2, -⟩ := pt_parts (c := c) hn hG hl
  have key : ∀ D : St, (D.K i = d.K i ∧ ∀ y ∈ D.W, y.1 ≠ i) → (syS D).K i = d.K i ∧ (∀ y ∈ (syS D).W, y.1 ≠ i) := by
    intro D h
    unfold syS
    split
    · exact h
    · exact ⟨(app_out _ _ _ h.2).trans h.1, fun y hy => by cases hy⟩
  have key2 : ∀ D : St, (D.K i = d.K i ∧ ∀ y ∈ D.W, y.1 ≠ i) → (beS D).K i = d.K i ∧ (∀ y ∈ (beS D).W, y.1 ≠ i) := by
    intro D h
    unfold beS
    split
    · exact h
    · exact h
  have h0 : (pwD d v (rtI (nxt v c)) (rtP (nxt v c)) l.length).K i = d.K i ∧ ∀ y ∈ (pwD d v (rtI (nxt v c)) (rtP (nxt v c)) l.length).W, y.1 ≠ i := by
    rw [p2]
    split
    · exact ⟨rfl, hW⟩
    · refine ⟨rfl, fun y hy => ?_⟩
      rcases List.mem_append.1 (show y ∈ d.W ++ [_] from hy) with e | e
      · exact hW y e
      · rw [List.mem_singleton] at e
        subst e
        show (c.ver + 1) % 2 ≠ i
        omega
  unfold ptD
  split
  · exact h0
  · exact key2 _ (key _ h0)
end
/-- What there is, by the changes that made it. -/
def Hv (v : Va) (L : List Bb) (hv : List Ch) : Prop := (hv.map Ch.nm).Perm (L.map Bb.nm) ∧ ∀ y ∈ hv, ∃ b ∈ L, b.nm = y.nm ∧ b.k = y.k ∧ Ent v b y.body
theorem Hv.init (v : Va) : Hv v [] [] := ⟨List.Perm.refl _, fun y hy => by cases hy⟩
theorem Hv.more {v v' : Va} {L : List Bb} {hv : List Ch} {E : List En} (h : Hv v L hv) (hv' : v'.L = v.L ++ E) : Hv v' L hv :=
  ⟨h.1, fun y hy => by obtain ⟨b, h1, h2, h3, h4⟩ := h.2 y hy; exact ⟨b, h1, h2, h3, h4.more hv'⟩⟩
theorem Hv.len {v : Va} {L : List Bb} {hv : List Ch} (h : Hv v L hv) : L.length = hv.length := by
  have := h.1.length_eq
  simpa using this.symm
/-- What a commit leaves. -/
structure CM (s s' : Sr) (e : Int) (l hv : List Ch) (laid : Bool) : Prop where
  si : SI s'.d s'.v s'.c s'.L laid
  V : ∃ E, s'.v.L = s.v.L ++ E ∧ E.length ≤ l.length + 1
  n : s'.d.n = s.d.n
  er : e ≠ 0 → s'.L = s.L ∧ s'.c = s.c
  ok : e = 0 → s'.dn = false ∧ s'.c.ver = s.c.ver + 1
  on : s.d.lim = none → s'.d.lim = none ∧ s'.dn = false
  Wl : s'.d.W.length ≤ s.d.W.length + l.length + 1
  hv : Hv s'.v s'.L (if e = 0 then applied hv l else hv)
theorem planDead (G : List Ky) (ver : Nat) (hG : G = []) : ∀ (l : List Ch) (s p : Pl), s.dead = false → plan G ver l s = some p → p.dead = false
  | [], s, p, hd, hp => by
    rw [plan] at hp
    injection hp with hp
    subst hp
    exact hd
  | x :: r, s, p, hd, hp => by
    rw [plan] at hp
    cases h1 : pl1 G ver s x with
    | none => rw [h1] at hp; cases hp
    | some s1 =>
      rw [h1] at hp
      refine planDead G ver hG r s1 p ?_ hp
      unfold pl1 at h1
      split at h1
      · injection h1 with h1; subst h1; exact hd
      · split at h1
        · cases h1
        · injection h1 with h1
          subst h1
          show (s.dead || decide (x.k ∈ G)) = false
          rw [hd, hG]
          simp
theorem entNew {s : Sr} {v' v3 : Va} {ws : List (Bb × List UInt8)} {b : Bb} {t : List UInt8} {j : Nat} {now : En} (vL : v'.L = s.v.L ++ ws.map entW) (hj : ws[j]? = some (b, t))
    {Q : Bb → List UInt8 → Prop} (hnew : ∀ j b t, ws[j]? = some (b, t) → b.wf ∧ bbOk b ∧ b.p.wf ∧ b.p.k.right ∧ b.p.id = ((s.v.L.length + j + 1 : Nat) : Int) ∧ t.length ≤ 65536 ∧ (t.length : Int) = b.sz ∧ Q b t) (E' : List En) (_hE' : v3.L = s.v.L ++ E') (hv3 : v3 = ⟨v'.L ++ [now], []⟩) : Ent v3 b t := by
  obtain ⟨_, h1, _, _, h2, _, h3, _⟩ := hnew j b t hj
  have hl := (List.getElem?_eq_some_iff.1 hj).1
  refine ⟨by rw [h2]; omega, ?_, h3⟩
  rw [h2, hv3]
  show (v'.L ++ [now])[((s.v.L.length + j + 1 : Nat) : Int).toNat - 1]? = _
  rw [Int.toNat_natCast, Nat.add_sub_cancel, vL, List.append_assoc, List.getElem?_append_right (by omega), Nat.add_sub_cancel_left, List.getElem?_append_left (by rw [List.length_map]; exact hl), List.getElem?_map, hj]
  show some (entW (b, t)) = _
  unfold entW
  rw [h1.2.2.1]
theorem ptD_lim {d : St} {v : Va} {c : Ce} {l : List UInt8} (hn : 2 ≤ d.n) (hG : v.G = []) (hl : l.length ≤ 65536) (ho : d.lim = none) : ptE d v c l.length = 0 ∧ (ptD d v c l.length).lim = none := by
  obtain ⟨h1, h2, _⟩ := pt_none (c := c) hn hG hl ho
  exact ⟨h1, by rw [h2]⟩
theorem CM.same {s : Sr} {e : Int} {l hv : List Ch} {laid : Bool} (h : SI s.d s.v s.c s.L laid) (hdn : s.dn = false) (hH : Hv s.v s.L hv) (he : e ≠ 0) : CM s s e l hv laid :=
  ⟨h, ⟨[], by simp, by simp⟩, rfl, fun _ => ⟨rfl, rfl⟩, fun e0 => absurd e0 he, fun ho => ⟨ho, hdn⟩, by omega, by rw [if_neg he]; exact hH⟩
theorem SI.commit {s : Sr} {l hv : List Ch} {laid : Bool} (h : SI s.d s.v s.c s.L laid) (hdn : s.dn = false) (hH : Hv s.v s.L hv) (hm : s.v.L.length + l.length ≤ 500000) (hkw : ∀ x ∈ l, x.k.wf) :
    CM s (cmS s l).2 (cmS s l).1 l hv laid ∧ ((cmS s l).1 = 0 ∨ (cmS s l).1 = 2 ∨ (cmS s l).1 = 90 ∨ (cmS s l).1 = 60 ∨ (cmS s l).1 = 40) := by
  have hdn' : ¬ s.dn = true := by rw [hdn]; decide
  unfold cmS
  rw [if_neg hdn']
  by_cases hc : ckE s.L l ≠ 0
  · rw [if_pos hc]
    refine ⟨CM.same h hdn hH hc, ?_⟩
    show ckE s.L l = 0 ∨ _
    unfold ckE
    split
    · exact .inr (.inl rfl)
    · split
      · exact .inr (.inr (.inl rfl))
      · exact .inl rfl
  rw [if_neg hc]
  have hc0 : ckE s.L l = 0 := Classical.byContradiction hc
  have hgood : ¬ ((∃ x ∈ l, chBad x) ∨ ¬ (l.map Ch.nm).Nodup) := by
    intro e
    unfold ckE at hc0
    rw [if_pos e] at hc0
    cases hc0
  have hnb : ∀ x ∈ l, ¬ chBad x := fun x hx e => hgood (.inl ⟨x, hx, e⟩)
  have hnd : (l.map Ch.nm).Nodup := Classical.byContradiction fun e => hgood (.inr e)
  cases hp : planS s l with
  | none => exact ⟨CM.same h hdn hH (show (60 : Int) ≠ 0 by decide), .inr (.inr (.inr (.inl rfl)))⟩
  | some p =>
    dsimp only
    have hinj : ∀ x ∈ s.L, ∀ y ∈ s.L, x.b = y.b → x = y := by
      intro x hx y hy e
      have hap := h.rg.2.1
      obtain ⟨i, hi⟩ := List.mem_iff_getElem?.1 hx
      obtain ⟨j, hj⟩ := List.mem_iff_getElem?.1 hy
      obtain ⟨hi', rfl⟩ := List.getElem?_eq_some_iff.1 hi
      obtain ⟨hj', rfl⟩ := List.getElem?_eq_some_iff.1 hj
      rcases Nat.lt_trichotomy i j with hlt | heq | hgt
      · exact absurd e (List.pairwise_iff_getElem.1 hap i j hi' hj' hlt).1
      · subst heq; rfl
      · exact absurd e.symm (List.pairwise_iff_getElem.1 hap j i hj' hi' hgt).1
    have hP := PI.plan (frs_nodup s.d.n s.L) (fun f hf b hb => (frs_mem.1 hf).2 b hb) l [] _ p (PI.init (G := s.v.G) (ver := s.c.ver) (id0 := s.v.L.length) (F := frs s.d.n s.L) (hv := hv) (h.rg.2.1.imp fun e => e.2) hinj hH.1 (fun y hy => by obtain ⟨b, h1, h2, _⟩ := hH.2 y hy; exact ⟨b, h1, h2⟩)) hnd hp
    rw [List.nil_append] at hP
    by_cases hf : 1000 < p.nx.length ∨ 65536 < (dirB p.nx).length
    · rw [if_pos hf]
      exact ⟨CM.same h hdn hH (show (60 : Int) ≠ 0 by decide), .inr (.inr (.inr (.inl rfl)))⟩
    rw [if_neg hf]
    have hdl : (dirB p.nx).length ≤ 65536 := by
      rcases Nat.lt_or_ge 65536 (dirB p.nx).length with e | e
      · exact absurd (.inr e) hf
      · exact e
    have hnl : p.nx.length ≤ 1000 := by
      rcases Nat.lt_or_ge 1000 p.nx.length with e | e
      · exact absurd (.inl e) hf
      · exact e
    have hdead : ¬ p.dead = true := by
      intro e
      have h0 := planDead s.v.G s.c.ver h.rt.G l _ p rfl hp
      rw [h0] at e
      cases e
    rw [if_neg hdead]
    have hver := h.rt.ver
    have hwl := hP.wl
    -- what is written is right
    have hnew : ∀ j b t, p.ws[j]? = some (b, t) → b.wf ∧ bbOk b ∧ b.p.wf ∧ b.p.k.right ∧ b.p.id = ((s.v.L.length + j + 1 : Nat) : Int) ∧ t.length ≤ 65536 ∧ (t.length : Int) = b.sz ∧ b.p.ver = ((s.c.ver + 1 : Nat) : Int) ∧ ∃ i : Nat, b.b = (i : Int) ∧ 2 ≤ i ∧ i < s.d.n ∧ i ≤ 4096 ∧ ∀ x ∈ s.L, x.b ≠ (i : Int) := by
      intro j b t hj
      obtain ⟨x, f, h1, h2, rfl, rfl, h4⟩ := hP.ws j b t hj
      have hj' := (List.getElem?_eq_some_iff.1 hj).1
      have hb := hnb x h1
      have hb1 : nmOk x.nm := Classical.byContradiction fun e => hb (.inl e)
      have hb2 : x.k.right := Classical.byContradiction fun e => hb (.inr (.inl e))
      have hb3 : x.body.length ≤ 65536 := by
        rcases Nat.lt_or_ge 65536 x.body.length with e | e
        · exact absurd (.inr (.inr e)) hb
        · exact e
      obtain ⟨⟨f1, f2⟩, f3⟩ := frs_mem.1 h4
      have hn4 := h.n4
      have w1 : i64ok ((s.v.L.length + j + 1 : Nat) : Int) := ⟨by omega, by omega⟩
      have w2 : i64ok ((s.c.ver + 1 : Nat) : Int) := ⟨by omega, by omega⟩
      have w3 : i64ok (f : Int) := ⟨by omega, by omega⟩
      have w4 : i64ok (x.body.length : Int) := ⟨by omega, by omega⟩
      refine ⟨⟨Nat.lt_of_le_of_lt hb1.2 (by decide), hkw x h1, w3, w1, w2, w4⟩, ⟨hb1, hb2, rfl, ?_, ?_, ?_, ?_, ?_, ?_⟩, ⟨hkw x h1, w1, w2⟩, hb2, rfl, hb3, rfl, rfl, f, rfl, f1, f2, by omega, f3⟩
      · show 0 ≤ ((s.v.L.length + j + 1 : Nat) : Int); omega
      · show 0 ≤ ((s.c.ver + 1 : Nat) : Int); omega
      · show 0 ≤ (x.body.length : Int); omega
      · show (x.body.length : Int) ≤ 65536; omega
      · show 2 ≤ (f : Int); omega
      · show (f : Int) ≤ 4095; omega
    have hWs : WsOk s.d.n s.v.L.length p.ws := by
      refine ⟨fun j b t hj => ?_, ?_⟩
      · obtain ⟨_, _, a1, a2, a3, a4, _, _, i, i1, i2, i3, i4, _⟩ := hnew j b t hj
        exact ⟨a1, a2, a3, a4, i, i1, i2, i3, i4⟩
      · have h3 : (p.ws.map (fun w => w.1.b.toNat) ++ p.fr).Nodup := by rw [hP.fr]; exact frs_nodup _ _
        have h4 := (List.nodup_append.1 h3).1
        unfold List.Nodup at h4 ⊢
        rw [List.pairwise_map] at h4 ⊢
        exact h4.imp fun e e' => e (by rw [e'])
    obtain ⟨r1, r2, r3, r4, r5⟩ := wrs_ok p.ws s.d s.v h.rt hWs (by omega)
    generalize wrs p.ws s.d s.v = R at *
    obtain ⟨E, E1, E2⟩ := r3.V
    -- the blobs that there were are as they were
    have hold : laid = false → ∀ x ∈ s.L, R.2.1.K x.b.toNat = pad (le8 x.p.id.toNat) ∧ ∀ y ∈ R.2.1.W, (y.1 : Int) ≠ x.b := by
      intro hl x hx
      obtain ⟨k1, k2⟩ := h.dv hl x hx
      refine ⟨by rw [r3.K]; exact k1, fun y hy => ?_⟩
      rcases r3.W y hy with e | ⟨w, e1, e2⟩
      · exact k2 y e
      · obtain ⟨j, hj⟩ := List.mem_iff_getElem?.1 e1
        obtain ⟨_, _, _, _, _, _, _, _, i, i1, _, _, _, i5⟩ := hnew j w.1 w.2 hj
        have := i5 x hx
        rw [← e2, i1]
        exact fun e => this e.symm
    by_cases hw0 : R.1 ≠ 0
    · rw [if_pos hw0]
      have h40 : R.1 = 40 := by
        rcases r1 with e | e
        · exact absurd e hw0
        · exact e
      refine ⟨⟨⟨r2, h.l0, h.rg, h.wf, fun x hx => by show x.b < (R.2.1.n : Int); rw [r3.n]; exact h.bl x hx, by show R.2.1.n ≤ _; rw [r3.n]; exact h.n4, fun x hx => ?_, h.pv, hold⟩, ⟨E, E1, by omega⟩, r3.n, fun _ => ⟨rfl, rfl⟩, fun e => absurd e hw0, fun ho => ?_, ?_, ?_⟩, .inr (.inr (.inr (.inr h40)))⟩
      · obtain ⟨t, ht⟩ := h.en x hx
        exact ⟨t, ht.more E1⟩
      · have := (r4 ho).1
        rw [h40] at this
        cases this
      · have := r3.Wl
        show R.2.1.W.length ≤ _
        omega
      · show Hv R.2.2 s.L (if R.1 = 0 then _ else _)
        rw [if_neg hw0]
        exact hH.more E1
    rw [if_neg hw0]
    have hw0' : R.1 = 0 := Classical.byContradiction hw0
    obtain ⟨vL, vw⟩ := r5 hw0'
    have hRl : R.2.2.L.length ≤ 1000000 := by rw [E1, List.length_append]; omega
    have hRn : 2 ≤ R.2.1.n := r2.n
    obtain ⟨E', hE'1, hE'2⟩ : ∃ E', (ptV R.2.1 R.2.2 s.c (dirB p.nx)).L = s.v.L ++ E' ∧ E'.length ≤ l.length + 1 := by
      have := (pt_parts (d := R.2.1) (v := R.2.2) (c := s.c) hRn r2.G hdl).2.2
      refine ⟨E ++ [⟨⟨0, 0, 0⟩, besd (rtP (nxt R.2.2 s.c)) (rtI (nxt R.2.2 s.c)), dirB p.nx⟩], ?_, ?_⟩
      · rw [this]
        show R.2.2.L ++ _ = _
        rw [E1, List.append_assoc]
      · rw [List.length_append]
        simp
        omega
    have hWl3 : (ptD R.2.1 R.2.2 s.c (dirB p.nx).length).W.length ≤ s.d.W.length + l.length + 1 := by
      have h1 := ptD_W R.2.1 R.2.2 s.c (dirB p.nx).length
      have h2 := r3.Wl
      omega
    have hn3 : (ptD R.2.1 R.2.2 s.c (dirB p.nx).length).n = s.d.n := (ptD_n _ _ _ _).trans r3.n
    rcases r2.put hRl hdl with ⟨p1, p2, p3⟩ | ⟨p1, p2, p3⟩
    · rw [if_neg (fun e => e p1)]
      obtain ⟨q1, q2, q3⟩ := pt_ok hRn r2.G hdl p1
      refine ⟨⟨⟨p2, fun e => ?_, ⟨fun x hx => ?_, ?_, hnl⟩, fun x hx => ?_, fun x hx => ?_, by show (ptD _ _ _ _).n ≤ _; rw [hn3]; exact h.n4, fun x hx => ?_, fun x hx => ?_, fun hl x hx => ?_⟩, ⟨E', hE'1, hE'2⟩, hn3, fun e => absurd rfl e, fun _ => ⟨rfl, p3⟩, fun ho => ⟨?_, rfl⟩, hWl3, ?_⟩, .inl rfl⟩
      · rw [p3] at e
        omega
      · rcases hP.mem x hx with ⟨e, _⟩ | ⟨t, e⟩
        · exact h.rg.1 x e
        · obtain ⟨j, hj⟩ := List.mem_iff_getElem?.1 e
          exact (hnew j x t hj).2.1
      · refine hP.rise.imp_of_mem fun {a b} ha hb hr => ⟨fun e => ?_, hr⟩
        have := hP.inj a ha b hb e
        subst this
        exact less_ne hr rfl
      · rcases hP.mem x hx with ⟨e, _⟩ | ⟨t, e⟩
        · exact h.wf x e
        · obtain ⟨j, hj⟩ := List.mem_iff_getElem?.1 e
          exact (hnew j x t hj).1
      · show x.b < ((ptD _ _ _ _).n : Int)
        rw [hn3]
        rcases hP.mem x hx with ⟨e, _⟩ | ⟨t, e⟩
        · exact h.bl x e
        · obtain ⟨j, hj⟩ := List.mem_iff_getElem?.1 e
          obtain ⟨_, _, _, _, _, _, _, _, i, i1, _, i3, _⟩ := hnew j x t hj
          omega
      · rcases hP.mem x hx with ⟨e, _⟩ | ⟨t, e⟩
        · obtain ⟨t, ht⟩ := h.en x e
          exact ⟨t, ht.more hE'1⟩
        · obtain ⟨j, hj⟩ := List.mem_iff_getElem?.1 e
          exact ⟨t, entNew vL hj hnew E' hE'1 (pt_parts (d := R.2.1) (v := R.2.2) (c := s.c) hRn r2.G hdl).2.2⟩
      · show x.p.ver ≤ ((ptC R.2.1 R.2.2 s.c (dirB p.nx).length).ver : Int)
        rw [p3]
        rcases hP.mem x hx with ⟨e, _⟩ | ⟨t, e⟩
        · have := h.pv x e
          omega
        · obtain ⟨j, hj⟩ := List.mem_iff_getElem?.1 e
          obtain ⟨_, _, _, _, _, _, _, i1, _⟩ := hnew j x t hj
          omega
      · show (ptD _ _ _ _).K _ = _ ∧ ∀ y ∈ (ptD _ _ _ _).W, _
        rw [q1, q2]
        refine ⟨?_, fun y hy => by cases hy⟩
        rcases hP.mem x hx with ⟨e, _⟩ | ⟨t, e⟩
        · obtain ⟨k1, k2⟩ := hold hl x e
          obtain ⟨i, i1, i2, _⟩ := h.blk e
          rw [i1, Int.toNat_natCast] at k1 ⊢
          rw [upd_other _ _ (by omega), app_out _ _ _ (fun y hy => by have := k2 y hy; rw [i1] at this; omega)]
          exact k1
        · obtain ⟨j, hj⟩ := List.mem_iff_getElem?.1 e
          obtain ⟨_, _, _, _, _, _, _, _, i, i1, i2, _⟩ := hnew j x t hj
          have h5 := vw (x, t) e
          have h6 : x.b.toNat = i := by rw [i1]; simp
          rw [upd_other _ _ (by omega)]
          exact h5
      · exact (ptD_lim hRn r2.G hdl (r4 ho).2).2
      · show Hv (ptV R.2.1 R.2.2 s.c (dirB p.nx)) p.nx (if (0 : Int) = 0 then applied hv l else hv)
        rw [if_pos rfl]
        refine ⟨hP.pm, fun y hy => ?_⟩
        obtain ⟨b, b1, b2, b3⟩ := hP.rel y hy
        rcases b3 with ⟨b3, b4⟩ | ⟨b3, b4⟩
        · obtain ⟨b', b5, b6, b7, b8⟩ := hH.2 y b4
          have := risen_ne (h.rg.2.1.imp fun e => e.2) b3 b5 (b2.trans b6.symm)
          subst this
          exact ⟨b, b1, b2, b7, b8.more hE'1⟩
        · obtain ⟨j, hj⟩ := List.mem_iff_getElem?.1 b3
          exact ⟨b, b1, b2, b4, entNew vL hj hnew E' hE'1 (pt_parts (d := R.2.1) (v := R.2.2) (c := s.c) hRn r2.G hdl).2.2⟩
    · rw [p1, if_pos (by decide)]
      rw [p3] at p2 ⊢
      refine ⟨⟨⟨p2, h.l0, h.rg, h.wf, fun x hx => by show x.b < ((ptD _ _ _ _).n : Int); rw [hn3]; exact h.bl x hx, by show (ptD _ _ _ _).n ≤ _; rw [hn3]; exact h.n4, fun x hx => ?_, h.pv, fun hl x hx => ?_⟩, ⟨E', hE'1, hE'2⟩, hn3, fun _ => ⟨rfl, rfl⟩, fun e => absurd e (show ¬ (40 : Int) = 0 by decide), fun ho => ?_, hWl3, ?_⟩, .inr (.inr (.inr (.inr rfl)))⟩
      · obtain ⟨t, ht⟩ := h.en x hx
        exact ⟨t, ht.more hE'1⟩
      · obtain ⟨k1, k2⟩ := hold hl x hx
        obtain ⟨i, i1, i2, _⟩ := h.blk hx
        have h7 := pt_else (c := s.c) hRn r2.G hdl i2 (fun y hy => by have := k2 y hy; rw [i1] at this; omega)
        rw [i1, Int.toNat_natCast] at k1 ⊢
        exact ⟨h7.1.trans k1, fun y hy => by have := h7.2 y hy; omega⟩
      · have := (ptD_lim (c := s.c) hRn r2.G hdl (r4 ho).2).1
        rw [p1] at this
        cases this
      · show Hv (ptV R.2.1 R.2.2 s.c (dirB p.nx)) s.L (if (40 : Int) = 0 then applied hv l else hv)
        rw [if_neg (by decide)]
        exact hH.more hE'1
end Go.Proofs.YtolaojkcofbkhaaGreat

/- Further of stores, of no program: how many blocks are free; the handle on a blob's block. Nothing is assumed. -/
namespace Go.Proofs.YtolaojkcofbkhaaGreat
open Go.RowKit

theorem count_cut : ∀ (F : List Nat) (B : List Nat), B.Nodup → F.Nodup → (∀ b ∈ B, b ∈ F) → (F.filter fun i => decide (i ∉ B)).length + B.length = F.length
  | F, [], _, _, _ => by simp
  | F, b :: r, hB, hF, h => by
    obtain ⟨h1, h2⟩ := List.nodup_cons.1 hB
    have ih := count_cut F r h2 hF fun x hx => h x (by simp [hx])
    have hb : b ∈ F.filter (fun i => decide (i ∉ r)) := by rw [List.mem_filter]; exact ⟨h b (by simp), by simpa using h1⟩
    have hn : (F.filter (fun i => decide (i ∉ r))).Nodup := hF.filter _
    have e : (F.filter fun i => decide (i ∉ b :: r)) = (F.filter (fun i => decide (i ∉ r))).erase b := by
      rw [hn.erase_eq_filter, List.filter_filter]
      apply List.filter_congr
      intro x _
      by_cases hx : x = b <;> simp [hx]
    rw [e, List.length_erase_of_mem hb, List.length_cons]
    have : 0 < (F.filter (fun i => decide (i ∉ r))).length := List.length_pos_of_mem hb
    omega
theorem frs_len {n : Nat} {L : List Bb} (hn : 2 ≤ n) (hr : Rgt L) (hb : ∀ x ∈ L, x.b < n) : (frs n L).length + L.length + 2 = n := by
  have hB : (L.map fun x => x.b.toNat).Nodup := by
    unfold List.Nodup
    rw [List.pairwise_map]
    refine hr.2.1.imp_of_mem fun {a b} ha hb' hab e => ?_
    have h1 := (hr.1 a ha).2.2.2.2.2.2.2.1
    have h2 := (hr.1 b hb').2.2.2.2.2.2.2.1
    exact hab.1 (by omega)
  have hF : (List.range' 2 (n - 2)).Nodup := List.nodup_range'
  have h := count_cut (List.range' 2 (n - 2)) (L.map fun x => x.b.toNat) hB hF fun b hb' => by
    obtain ⟨x, hx, rfl⟩ := List.mem_map.1 hb'
    have h1 := (hr.1 x hx).2.2.2.2.2.2.2.1
    have h2 := hb x hx
    rw [List.mem_range'_1]
    omega
  rw [List.length_map, List.length_range'] at h
  have e : frs n L = (List.range' 2 (n - 2)).filter fun i => decide (i ∉ L.map fun x => x.b.toNat) := by
    unfold frs
    apply List.filter_congr
    intro i _
    rw [Bool.eq_iff_iff, List.all_eq_true, decide_eq_true_eq, List.mem_map]
    constructor
    · rintro h1 ⟨x, hx, rfl⟩
      have h2 := h1 x hx
      have h3 := (hr.1 x hx).2.2.2.2.2.2.2.1
      simp at h2
      omega
    · intro h1 x hx
      rw [decide_eq_true_eq]
      intro e
      exact h1 ⟨x, hx, by rw [e]; simp⟩
  rw [e]
  omega
/-- The first bytes of a handle. -/
theorem le8_low {h : Nat} (hh : h < 16777216) : ∃ a b c : Nat, a < 256 ∧ b < 256 ∧ c < 256 ∧ (pad (le8 h))[0]? = some (UInt8.ofNat a) ∧ (pad (le8 h))[1]? = some (UInt8.ofNat b) ∧ (pad (le8 h))[2]? = some (UInt8.ofNat c) ∧ a + 256 * b + 65536 * c = h := by
  have hl : (le8 h).length = 8 := le_len 8 h
  have hp : ∀ i, i < 8 → (pad (le8 h))[i]? = some (UInt8.ofNat (h / 256 ^ i % 256)) := by
    intro i hi
    unfold pad
    rw [List.getElem?_append_left (by omega)]
    exact le_get 8 h i hi
  refine ⟨h / 256 ^ 0 % 256, h / 256 ^ 1 % 256, h / 256 ^ 2 % 256, by omega, by omega, by omega, hp 0 (by decide), hp 1 (by decide), hp 2 (by decide), ?_⟩
  omega
section
variable {d : St} {v : Va} {c : Ce} {L : List Bb}
/-- What lies on a blob's block. -/
theorem SI.raw (h : SI d v c L false) {x : Bb} (hx : x ∈ L) (ho : d.lim = none) : rdE d x.b = 0 ∧ rdB d x.b = pad (le8 x.p.id.toNat) := by
  obtain ⟨i, e1, e2, e3, e4⟩ := h.blk hx
  obtain ⟨k1, k2⟩ := h.dv rfl x hx
  rw [e1] at k1 ⊢
  rw [Int.toNat_natCast] at k1
  have hb : ¬ bad d (i : Int) 0 := by unfold bad; omega
  have h2 : ¬ d.lim = some 0 := by rw [ho]; simp
  refine ⟨by unfold rdE; rw [if_neg hb, if_neg h2], ?_⟩
  unfold rdB
  rw [if_neg (by rintro (e | e); exact hb e; exact h2 e), Int.toNat_natCast, app_out _ _ _ (fun y hy => by have := k2 y hy; rw [e1] at this; omega)]
  exact k1
/-- The handle of a blob's page: what the vault has behind it. -/
theorem SI.hand (h : SI d v c L false) {x : Bb} (hx : x ∈ L) : ∃ e, behind v.L x.p.id.toNat = some e ∧ e.k = x.k ∧ x.p.id.toNat ≤ v.L.length := by
  obtain ⟨t, h1, h2, h3⟩ := h.en x hx
  have := (List.getElem?_eq_some_iff.1 h2).1
  refine ⟨⟨x.k, besd x.p x.b, t⟩, ?_, rfl, by omega⟩
  unfold behind
  rw [if_neg (by omega)]
  exact h2
end
/-- A store that was never off and that no other hand has touched: what a crash and another hand leave of it. -/
theorem SI.clean {d : St} {v : Va} {c : Ce} {L : List Bb} (h : SI d v c L false) (hL : v.L.length ≤ 1000000) (ho : d.lim = none) : soE d v c = 0 ∧ soL d v c = L ∧ ∀ x ∈ L, ∀ t, Ent v x t → sgE d v L x.nm = 0 ∧ sgB d v L x.nm = t := by
  rcases h.open_ hL with ⟨h1, h2⟩ | ⟨_, h2⟩ | ⟨_, h2⟩
  · refine ⟨h1, h2, fun x hx t ht => ?_⟩
    rcases h.get hx ht with ⟨g1, g2⟩ | ⟨_, g2⟩ | ⟨_, g2⟩
    · exact ⟨g1, g2⟩
    · rw [ho] at g2; cases g2
    · cases g2
  · rw [ho] at h2; cases h2
  · cases h2
end Go.Proofs.YtolaojkcofbkhaaGreat
