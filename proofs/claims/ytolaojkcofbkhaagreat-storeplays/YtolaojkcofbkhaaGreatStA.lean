import Derived.Test.YtolaojkcofbkhaaGreatTcMath
import Derived.Test.YtolaojkcofbkhaaGreatRtDef
namespace Go.Proofs.YtolaojkcofbkhaaGreat
theorem unfold_ok {u : Nat} (h : u < 18446744073709551616) : i64ok (unfold_ u) := by unfold unfold_ i64ok; split <;> constructor <;> omega
def rdI (l : List UInt8) : Option (Int × List UInt8) := if (rd l).2 = 0 then none else some (unfold_ (rd l).1, l.drop (rd l).2)
def rdT (l : List UInt8) : Option (List UInt8 × List UInt8) := if (rd l).2 = 0 ∨ (l.drop (rd l).2).length < (rd l).1 then none else some ((l.drop (rd l).2).take (rd l).1, (l.drop (rd l).2).drop (rd l).1)
def rdIs : Nat → List UInt8 → Option (List Int × List UInt8)
 | 0, l => some ([], l)
 | n + 1, l => match rdI l with
  | none => none
  | some (x, r) => match rdIs n r with
   | none => none
   | some (xs, r') => some (x :: xs, r')
theorem rdI_back {l r : List UInt8} {x : Int} (h : rdI l = some (x, r)) : l = num x ++ r ∧ i64ok x := by
 unfold rdI at h
 split at h
 · cases h
 · rename_i hz
   injection h with h
   injection h with h1 h2
   have := rd_back hz
   refine ⟨?_, h1 ▸ unfold_ok (rd_lt l)⟩
   unfold num
   rw [← h1, fold_unfold, ← h2]
   exact this
def numsB (xs : List Int) : List UInt8 := xs.flatMap num
theorem rdIs_back : ∀ (n : Nat) (l r : List UInt8) (xs : List Int), rdIs n l = some (xs, r) → l = numsB xs ++ r ∧ xs.length = n ∧ ∀ x ∈ xs, i64ok x
 | 0, l, r, xs, h => by
  injection h with h
  injection h with h1 h2
  subst h1 h2
  exact ⟨rfl, rfl, fun x hx => by cases hx⟩
 | n + 1, l, r, xs, h => by
  rw [rdIs] at h
  split at h
  · cases h
  · rename_i x r1 h1
    split at h
    · cases h
    · rename_i ys r2 h2
      injection h with h
      injection h with h3 h4
      subst h3 h4
      obtain ⟨a1, a2⟩ := rdI_back h1
      obtain ⟨b1, b2, b3⟩ := rdIs_back n r1 r2 ys h2
      refine ⟨?_, by rw [List.length_cons, b2], fun y hy => ?_⟩
      · rw [a1, b1]; simp [numsB]
      · rcases List.mem_cons.1 hy with e | e
        · rw [e]; exact a2
        · exact b3 y e
def txtB (s : List UInt8) : List UInt8 := nat s.length ++ s
theorem rdT_back {l s r : List UInt8} (h : rdT l = some (s, r)) : l = txtB s ++ r ∧ s.length < 18446744073709551616 := by
 unfold rdT at h
 split at h
 · cases h
 · rename_i hz
   injection h with h
   injection h with h1 h2
   have h3 : (rd l).2 ≠ 0 := fun e => hz (.inl e)
   have h4 : (rd l).1 ≤ (l.drop (rd l).2).length := by
    rcases Nat.lt_or_ge (l.drop (rd l).2).length (rd l).1 with e | e
    · exact absurd (.inr e) hz
    · exact e
   have h5 := rd_back h3
   have h6 : s.length = (rd l).1 := by rw [← h1, List.length_take]; omega
   refine ⟨?_, by rw [h6]; exact rd_lt l⟩
   unfold txtB
   rw [h6, ← h1, ← h2, List.append_assoc, List.take_append_drop]
   exact h5
structure Bb where
 nm : List UInt8
 k : Ky
 b : Int
 p : Pg
 sz : Int
deriving DecidableEq
def entB (x : Bb) : List UInt8 := txtB x.nm ++ numsB [x.k.t, x.k.c, x.k.e, x.b, x.p.id, x.p.ver, x.sz]
def entsB (l : List Bb) : List UInt8 := l.flatMap entB
def dirB (l : List Bb) : List UInt8 := nat l.length ++ entsB l
def Bb.wf (x : Bb) : Prop := x.nm.length < 18446744073709551616 ∧ x.k.wf ∧ i64ok x.b ∧ i64ok x.p.id ∧ i64ok x.p.ver ∧ i64ok x.sz
def ofNums (nm : List UInt8) : List Int → Option Bb
 | [a, b, c, d, e, g, h] => some ⟨nm, ⟨a, b, c⟩, d, ⟨⟨a, b, c⟩, e, g⟩, h⟩
 | _ => none
def rdBl (l : List UInt8) : Option (Bb × List UInt8) := match rdT l with
 | none => none
 | some (nm, r) => match rdIs 7 r with
  | none => none
  | some (xs, r') => (ofNums nm xs).map fun x => (x, r')
theorem rdBl_back {l r : List UInt8} {x : Bb} (h : rdBl l = some (x, r)) : l = entB x ++ r ∧ x.wf ∧ x.p.k = x.k := by
 unfold rdBl at h
 split at h
 · cases h
 · rename_i nm r1 h1
   split at h
   · cases h
   · rename_i xs r2 h2
     obtain ⟨a1, a2⟩ := rdT_back h1
     obtain ⟨b1, b2, b3⟩ := rdIs_back 7 r1 r2 xs h2
     match xs, b2, h with
     | [a, b, c, d, e, g, k], _, h =>
      simp only [ofNums, Option.map_some, Option.some.injEq, Prod.mk.injEq] at h
      obtain ⟨rfl, rfl⟩ := h
      refine ⟨?_, ⟨a2, ⟨b3 a (by simp), b3 b (by simp), b3 c (by simp)⟩, b3 d (by simp), b3 e (by simp), b3 g (by simp), b3 k (by simp)⟩, rfl⟩
      rw [a1, b1]
      unfold entB
      rw [List.append_assoc]
def rdBls : Nat → List UInt8 → Option (List Bb × List UInt8)
 | 0, l => some ([], l)
 | n + 1, l => match rdBl l with
  | none => none
  | some (x, r) => match rdBls n r with
   | none => none
   | some (xs, r') => some (x :: xs, r')
theorem rdBls_back : ∀ (n : Nat) (l r : List UInt8) (xs : List Bb), rdBls n l = some (xs, r) → l = entsB xs ++ r ∧ xs.length = n ∧ ∀ x ∈ xs, x.wf ∧ x.p.k = x.k
 | 0, l, r, xs, h => by
  injection h with h
  injection h with h1 h2
  subst h1 h2
  exact ⟨rfl, rfl, fun x hx => by cases hx⟩
 | n + 1, l, r, xs, h => by
  rw [rdBls] at h
  split at h
  · cases h
  · rename_i x r1 h1
    split at h
    · cases h
    · rename_i ys r2 h2
      injection h with h
      injection h with h3 h4
      subst h3 h4
      obtain ⟨a1, a2⟩ := rdBl_back h1
      obtain ⟨b1, b2, b3⟩ := rdBls_back n r1 r2 ys h2
      refine ⟨?_, by rw [List.length_cons, b2], fun y hy => ?_⟩
      · rw [a1, b1]; simp [entsB]
      · rcases List.mem_cons.1 hy with e | e
        · rw [e]; exact a2
        · exact b3 y e
def nmOk (s : List UInt8) : Prop := s ≠ [] ∧ s.length ≤ 40
instance (s : List UInt8) : Decidable (nmOk s) := inferInstanceAs (Decidable (_ ∧ _))
def bbOk (x : Bb) : Prop := nmOk x.nm ∧ x.k.right ∧ x.p.k = x.k ∧ 0 ≤ x.p.id ∧ 0 ≤ x.p.ver ∧ 0 ≤ x.sz ∧ x.sz ≤ 65536 ∧ 2 ≤ x.b ∧ x.b ≤ 4095
instance (x : Bb) : Decidable (bbOk x) := inferInstanceAs (Decidable (_ ∧ _))
def apart (y x : Bb) : Prop := y.b ≠ x.b ∧ Op.bytesLess y.nm x.nm = true
instance (y x : Bb) : Decidable (apart y x) := inferInstanceAs (Decidable (_ ∧ _))
def Rgt (l : List Bb) : Prop := (∀ x ∈ l, bbOk x) ∧ l.Pairwise apart ∧ l.length ≤ 1000
instance (l : List Bb) : Decidable (Rgt l) := inferInstanceAs (Decidable (_ ∧ _))
def parB (b : List UInt8) : Option (List Bb) := if (rd b).2 = 0 ∨ 1000 < (rd b).1 then none else match rdBls (rd b).1 (b.drop (rd b).2) with
 | none => none
 | some (l, r) => if r = [] ∧ Rgt l then some l else none
theorem parB_back {b : List UInt8} {l : List Bb} (h : parB b = some l) : dirB l = b ∧ Rgt l ∧ ∀ x ∈ l, x.wf := by
 unfold parB at h
 split at h
 · cases h
 · rename_i hz
   have h3 : (rd b).2 ≠ 0 := fun e => hz (.inl e)
   split at h
   · cases h
   · rename_i xs r h1
     split at h
     · rename_i h2
       injection h with h
       subst h
       obtain ⟨a1, a2, a3⟩ := rdBls_back _ _ _ _ h1
       rw [h2.1, List.append_nil] at a1
       refine ⟨?_, h2.2, fun x hx => (a3 x hx).1⟩
       unfold dirB
       rw [a2, ← a1]
       exact (rd_back h3).symm
     · cases h
open Go.RowKit
structure Ch where
 nm : List UInt8
 k : Ky
 body : List UInt8
 drop : Bool
def without (L : List Bb) (nm : List UInt8) : List Bb := L.filter fun x => decide (x.nm ≠ nm)
def with_ : List Bb → Bb → List Bb
 | [], b => [b]
 | x :: r, b => if Op.bytesLess b.nm x.nm = true then b :: x :: r else x :: with_ r b
def frs (n : Nat) (L : List Bb) : List Nat := (List.range' 2 (n - 2)).filter fun i => L.all fun x => decide (x.b ≠ (i : Int))
def chBad (x : Ch) : Prop := ¬ nmOk x.nm ∨ ¬ x.k.right ∨ 65536 < x.body.length
instance (x : Ch) : Decidable (chBad x) := inferInstanceAs (Decidable (_ ∨ _))
def ckE (L : List Bb) (l : List Ch) : Int :=
 if (∃ x ∈ l, chBad x) ∨ ¬ (l.map Ch.nm).Nodup then 2 else if ∃ x ∈ l, x.drop = true ∧ ¬ x.nm ∈ L.map Bb.nm then 90 else 0
structure Pl where
 nx : List Bb
 id : Nat
 fr : List Nat
 dead : Bool
 ws : List (Bb × List UInt8)
def newB (x : Ch) (f id ver : Nat) : Bb := ⟨x.nm, x.k, (f : Int), ⟨x.k, ((id + 1 : Nat) : Int), ((ver + 1 : Nat) : Int)⟩, (x.body.length : Int)⟩
def pl1 (G : List Ky) (ver : Nat) (s : Pl) (x : Ch) : Option Pl :=
 if x.drop = true then some { s with nx := without s.nx x.nm }
 else match s.fr with
  | [] => none
  | f :: r => some ⟨with_ (without s.nx x.nm) (newB x f s.id ver), s.id + 1, r, s.dead || decide (x.k ∈ G), s.ws ++ [(newB x f s.id ver, x.body)]⟩
def plan (G : List Ky) (ver : Nat) : List Ch → Pl → Option Pl
 | [], s => some s
 | x :: r, s => (pl1 G ver s x).bind (plan G ver r)
def wrs : List (Bb × List UInt8) → St → Va → Int × St × Va
 | [], d, v => (0, d, v)
 | (b, t) :: r, d, v => if pwE d v b.b b.p t.length ≠ 0 then (pwE d v b.b b.p t.length, pwD d v b.b b.p t.length, pwV d v b.b b.p t) else wrs r (pwD d v b.b b.p t.length) (pwV d v b.b b.p t)
structure Sr where
 d : St
 v : Va
 c : Ce
 L : List Bb
 dn : Bool
def planS (s : Sr) (l : List Ch) : Option Pl := plan s.v.G s.c.ver l ⟨s.L, s.v.L.length, frs s.d.n s.L, false, []⟩
def cmS (s : Sr) (l : List Ch) : Int × Sr :=
 if s.dn = true then (40, s)
 else if ckE s.L l ≠ 0 then (ckE s.L l, s)
 else match planS s l with
  | none => (60, s)
  | some p =>
   if 1000 < p.nx.length ∨ 65536 < (dirB p.nx).length then (60, s)
   else if p.dead = true then (50, s)
   else
    let w := wrs p.ws s.d s.v
    if w.1 ≠ 0 then (w.1, ⟨w.2.1, w.2.2, s.c, s.L, true⟩)
    else
     let n := (dirB p.nx).length
     if ptE w.2.1 w.2.2 s.c n ≠ 0 then (ptE w.2.1 w.2.2 s.c n, ⟨ptD w.2.1 w.2.2 s.c n, ptV w.2.1 w.2.2 s.c (dirB p.nx), ptC w.2.1 w.2.2 s.c n, s.L, true⟩)
     else (0, ⟨ptD w.2.1 w.2.2 s.c n, ptV w.2.1 w.2.2 s.c (dirB p.nx), ptC w.2.1 w.2.2 s.c n, p.nx, false⟩)
def soE (d : St) (v : Va) (c : Ce) : Int :=
 if d.n < 2 then 2 else if gtE d v c = 90 then 0 else if gtE d v c ≠ 0 then gtE d v c else match parB (gtB d v c) with
  | none => 91
  | some l => if ∀ x ∈ l, x.b < d.n then 0 else 91
def soL (d : St) (v : Va) (c : Ce) : List Bb := if gtE d v c = 90 then [] else (parB (gtB d v c)).getD []
def sgE (d : St) (v : Va) (L : List Bb) (nm : List UInt8) : Int := match L.find? fun x => decide (x.nm = nm) with
 | none => 90
 | some x => if prE d v x.b x.p = 0 ∧ ((prB d v x.b x.p).length : Int) ≠ x.sz then 51 else prE d v x.b x.p
def sgB (d : St) (v : Va) (L : List Bb) (nm : List UInt8) : List UInt8 := match L.find? fun x => decide (x.nm = nm) with
 | none => []
 | some x => if prE d v x.b x.p = 0 ∧ ((prB d v x.b x.p).length : Int) ≠ x.sz then [] else prB d v x.b x.p
def risen (y x : Bb) : Prop := Op.bytesLess y.nm x.nm = true
theorem without_mem {L : List Bb} {nm : List UInt8} {x : Bb} : x ∈ without L nm ↔ x ∈ L ∧ x.nm ≠ nm := by unfold without; rw [List.mem_filter]; simp
theorem with_mem {b : Bb} : ∀ {L : List Bb} {x : Bb}, x ∈ with_ L b ↔ x = b ∨ x ∈ L
 | [], x => by simp [with_]
 | y :: r, x => by
  rw [with_]
  split
  · simp
  · rw [List.mem_cons, with_mem, List.mem_cons]
    constructor
    · rintro (h | h | h)
      · exact .inr (.inl h)
      · exact .inl h
      · exact .inr (.inr h)
    · rintro (h | h | h)
      · exact .inr (.inl h)
      · exact .inl h
      · exact .inr (.inr h)
theorem with_len (b : Bb) : ∀ L : List Bb, (with_ L b).length = L.length + 1
 | [] => rfl
 | y :: r => by
  rw [with_]
  split
  · rfl
  · rw [List.length_cons, with_len b r, List.length_cons]
theorem without_risen {L : List Bb} (h : L.Pairwise risen) (nm : List UInt8) : (without L nm).Pairwise risen := h.filter _
theorem with_risen {b : Bb} : ∀ {L : List Bb}, L.Pairwise risen → (∀ x ∈ L, x.nm ≠ b.nm) → (with_ L b).Pairwise risen
 | [], _, _ => by rw [with_]; exact List.pairwise_singleton _ _
 | y :: r, h, hn => by
  obtain ⟨h1, h2⟩ := List.pairwise_cons.1 h
  rw [with_]
  split
  · rename_i hl
    refine List.pairwise_cons.2 ⟨fun x hx => ?_, h⟩
    rcases List.mem_cons.1 hx with e | e
    · subst e; exact hl
    · exact less_trans hl (h1 x e)
  · rename_i hl
    refine List.pairwise_cons.2 ⟨fun x hx => ?_, with_risen h2 fun x hx => hn x (by simp [hx])⟩
    rcases with_mem.1 hx with e | e
    · subst e
      exact less_tri (by simpa using hl) fun e => hn y (by simp) e.symm
    · exact h1 x e
theorem risen_ne {L : List Bb} (h : L.Pairwise risen) : ∀ {x y : Bb}, x ∈ L → y ∈ L → x.nm = y.nm → x = y := by
 induction L with
 | nil => intro x y hx; cases hx
 | cons z r ih =>
  obtain ⟨h1, h2⟩ := List.pairwise_cons.1 h
  intro x y hx hy he
  rcases List.mem_cons.1 hx with e | e <;> rcases List.mem_cons.1 hy with e' | e'
  · rw [e, e']
  · subst e; exact absurd he (less_ne (h1 y e'))
  · subst e'; exact absurd he.symm (less_ne (h1 x e))
  · exact ih h2 e e' he
theorem frs_mem {n : Nat} {L : List Bb} {i : Nat} : i ∈ frs n L ↔ (2 ≤ i ∧ i < n) ∧ ∀ x ∈ L, x.b ≠ (i : Int) := by
 unfold frs
 rw [List.mem_filter, List.mem_range'_1, List.all_eq_true]
 constructor
 · rintro ⟨⟨a, b⟩, c⟩
   exact ⟨⟨a, by omega⟩, fun x hx => by simpa using c x hx⟩
 · rintro ⟨⟨a, b⟩, c⟩
   exact ⟨⟨a, by omega⟩, fun x hx => by simpa using c x hx⟩
theorem frs_nodup (n : Nat) (L : List Bb) : (frs n L).Nodup := (List.nodup_range').filter _
theorem frs_rise (n : Nat) (L : List Bb) : (frs n L).Pairwise (· < ·) := (List.pairwise_lt_range').filter _
theorem find_name {L : List Bb} (h : L.Pairwise risen) {x : Bb} (hx : x ∈ L) : L.find? (fun y => decide (y.nm = x.nm)) = some x := by
 cases hf : L.find? (fun y => decide (y.nm = x.nm)) with
 | none =>
  have := List.find?_eq_none.1 hf x hx
  simp at this
 | some y =>
  have h1 := List.find?_some hf
  have h2 := List.mem_of_find?_eq_some hf
  rw [risen_ne h h2 hx (by simpa using h1)]
def ap1 (hv : List Ch) (x : Ch) : List Ch := if x.drop = true then hv.filter (fun y => decide (y.nm ≠ x.nm)) else hv.filter (fun y => decide (y.nm ≠ x.nm)) ++ [x]
def applied (hv l : List Ch) : List Ch := l.foldl ap1 hv
structure PI (L : List Bb) (F : List Nat) (id0 ver : Nat) (G : List Ky) (hv l1 : List Ch) (s : Pl) : Prop where
 rise : s.nx.Pairwise risen
 inj : ∀ x ∈ s.nx, ∀ y ∈ s.nx, x.b = y.b → x = y
 fr : s.ws.map (fun w => w.1.b.toNat) ++ s.fr = F
 id : s.id = id0 + s.ws.length
 wl : s.ws.length ≤ l1.length
 seq : s.ws.map (fun w => (w.1.nm, w.2)) = (l1.filter fun x => !x.drop).map fun x => (x.nm, x.body)
 ws : ∀ j b t, s.ws[j]? = some (b, t) → ∃ x f, x ∈ l1 ∧ x.drop = false ∧ b = newB x f (id0 + j) ver ∧ t = x.body ∧ f ∈ F
 mem : ∀ b ∈ s.nx, (b ∈ L ∧ b.nm ∉ l1.map Ch.nm) ∨ ∃ t, (b, t) ∈ s.ws
 old : ∀ b ∈ L, b.nm ∉ l1.map Ch.nm → b ∈ s.nx
 new : ∀ b t, (b, t) ∈ s.ws → b ∈ s.nx
 dead : s.dead = false → ∀ b t, (b, t) ∈ s.ws → b.k ∉ G
 pm : ((applied hv l1).map Ch.nm).Perm (s.nx.map Bb.nm)
 rel : ∀ y ∈ applied hv l1, ∃ b ∈ s.nx, b.nm = y.nm ∧ ((b ∈ L ∧ y ∈ hv) ∨ ((b, y.body) ∈ s.ws ∧ b.k = y.k))
theorem ap1_sub {hv : List Ch} {x y : Ch} (h : y ∈ ap1 hv x) : (y ∈ hv ∧ y.nm ≠ x.nm) ∨ (y = x ∧ x.drop = false) := by
 unfold ap1 at h
 split at h
 · rw [List.mem_filter] at h
   exact .inl ⟨h.1, by simpa using h.2⟩
 · rename_i hd
   rw [List.mem_append, List.mem_filter, List.mem_singleton] at h
   rcases h with h | h
   · exact .inl ⟨h.1, by simpa using h.2⟩
   · exact .inr ⟨h, by simpa using hd⟩
theorem applied_snoc (hv l : List Ch) (x : Ch) : applied hv (l ++ [x]) = ap1 (applied hv l) x := by unfold applied; rw [List.foldl_append]; rfl
theorem with_perm (b : Bb) : ∀ L : List Bb, ((with_ L b).map Bb.nm).Perm (b.nm :: L.map Bb.nm)
 | [] => List.Perm.refl _
 | y :: r => by
  rw [with_]
  split
  · exact List.Perm.refl _
  · exact ((with_perm b r).cons _).trans (List.Perm.swap _ _ _)
theorem filter_nm (L : List Bb) (nm : List UInt8) : (without L nm).map Bb.nm = (L.map Bb.nm).filter (fun z => decide (z ≠ nm)) := by
 unfold without
 rw [List.filter_map]
 rfl
theorem filter_cn (L : List Ch) (nm : List UInt8) : (L.filter fun y => decide (y.nm ≠ nm)).map Ch.nm = (L.map Ch.nm).filter (fun z => decide (z ≠ nm)) := by
 rw [List.filter_map]
 rfl
theorem PI.init {L : List Bb} {hv : List Ch} {F : List Nat} {id0 ver : Nat} {G : List Ky} (hr : L.Pairwise risen) (hi : ∀ x ∈ L, ∀ y ∈ L, x.b = y.b → x = y) (hp : (hv.map Ch.nm).Perm (L.map Bb.nm)) (hrel : ∀ y ∈ hv, ∃ b ∈ L, b.nm = y.nm) :
 PI L F id0 ver G hv [] ⟨L, id0, F, false, []⟩ :=
 ⟨hr, hi, rfl, rfl, nl _, rfl, fun j b t h => by simp at h, fun b hb => .inl ⟨hb, by simp⟩, fun b hb _ => hb, fun b t h => (by cases h), fun _ b t h => (by cases h), hp, fun y hy => by
  obtain ⟨b, h1, h2⟩ := hrel y hy
  exact ⟨b, h1, h2, .inl ⟨h1, hy⟩⟩⟩
theorem PI.step {L : List Bb} {hv l1 : List Ch} {F : List Nat} {id0 ver : Nat} {G : List Ky} {s s' : Pl} {x : Ch} (h : PI L F id0 ver G hv l1 s) (hF : F.Nodup) (hFL : ∀ f ∈ F, ∀ b ∈ L, b.b ≠ (f : Int)) (hx : x.nm ∉ l1.map Ch.nm) (hs : pl1 G ver s x = some s') : PI L F id0 ver G hv (l1 ++ [x]) s' := by
 have hl1 : ∀ z, z ∉ (l1 ++ [x]).map Ch.nm ↔ z ∉ l1.map Ch.nm ∧ z ≠ x.nm := by
  intro z
  rw [List.map_append, List.mem_append]
  simp only [List.map_cons, List.map_nil, List.mem_singleton, not_or]
 have hwn : ∀ b t, (b, t) ∈ s.ws → b.nm ≠ x.nm := by
  intro b t hb e
  obtain ⟨j, hj⟩ := List.mem_iff_getElem?.1 hb
  obtain ⟨y, f, h1, _, h2, _⟩ := h.ws j b t hj
  apply hx
  rw [← e, h2]
  exact List.mem_map_of_mem h1
 unfold pl1 at hs
 by_cases hd : x.drop = true
 · rw [if_pos hd] at hs
   injection hs with hs
   subst hs
   refine ⟨without_risen h.rise _, fun a ha b hb => h.inj a (without_mem.1 ha).1 b (without_mem.1 hb).1, h.fr, h.id, by have := h.wl; rw [List.length_append]; simp only []; omega, by rw [List.filter_append, List.map_append, ← h.seq]; simp [hd], fun j b t hj => ?_, fun b hb => ?_, fun b hb hn => ?_, fun b t hb => ?_, h.dead, ?_, fun y hy => ?_⟩
   · obtain ⟨y, f, h1, h2⟩ := h.ws j b t hj
     exact ⟨y, f, List.mem_append_left _ h1, h2⟩
   · obtain ⟨h1, h2⟩ := without_mem.1 hb
     rcases h.mem b h1 with ⟨a1, a2⟩ | h3
     · exact .inl ⟨a1, (hl1 _).2 ⟨a2, h2⟩⟩
     · exact .inr h3
   · obtain ⟨h1, h2⟩ := (hl1 _).1 hn
     exact without_mem.2 ⟨h.old b hb h1, h2⟩
   · exact without_mem.2 ⟨h.new b t hb, hwn b t hb⟩
   · rw [applied_snoc, ap1, if_pos hd, filter_cn, filter_nm]
     exact h.pm.filter _
   · rw [applied_snoc] at hy
     rcases ap1_sub hy with ⟨y1, y2⟩ | ⟨_, y2⟩
     · obtain ⟨b, b1, b2, b3⟩ := h.rel y y1
       exact ⟨b, without_mem.2 ⟨b1, by rw [b2]; exact y2⟩, b2, b3⟩
     · rw [hd] at y2; cases y2
 · rw [if_neg hd] at hs
   have hd' : x.drop = false := by simpa using hd
   split at hs
   · cases hs
   · rename_i f r hfr
     injection hs with hs
     have hfF : f ∈ F := by rw [← h.fr, hfr]; simp
     have hfnot : ∀ b ∈ s.nx, b.b ≠ (f : Int) := by
      intro b hb e
      rcases h.mem b hb with ⟨h1, _⟩ | ⟨t, h1⟩
      · exact hFL f hfF b h1 e
      · have h2 : f ∈ s.ws.map (fun w => w.1.b.toNat) := List.mem_map.2 ⟨(b, t), h1, by show b.b.toNat = f; rw [e]; simp⟩
        have h3 : (s.ws.map (fun w => w.1.b.toNat) ++ s.fr).Nodup := by rw [h.fr]; exact hF
        rw [hfr] at h3
        exact (List.nodup_append.1 h3).2.2 f h2 f (by simp) rfl
     have hnb : (newB x f s.id ver).nm = x.nm := rfl
     have hbb : (newB x f s.id ver).b = (f : Int) := rfl
     have hid := h.id
     subst hs
     refine ⟨with_risen (without_risen h.rise _) fun y hy => (without_mem.1 hy).2, ?_, ?_, ?_, by have := h.wl; rw [List.length_append, List.length_append]; simp only [List.length_cons, List.length_nil]; omega, by rw [List.filter_append, List.map_append, List.map_append, ← h.seq]; simp [hd', newB], fun j b t hj => ?_, fun b hb => ?_, fun b hb hn => ?_, fun b t hb => ?_, fun hdd b t hb => ?_, ?_, fun y hy => ?_⟩
     · intro a ha b hb e
       rcases with_mem.1 ha with h1 | h1 <;> rcases with_mem.1 hb with h2 | h2
       · rw [h1, h2]
       · rw [h1, hbb] at e
         exact absurd e.symm (hfnot b (without_mem.1 h2).1)
       · rw [h2, hbb] at e
         exact absurd e (hfnot a (without_mem.1 h1).1)
       · exact h.inj a (without_mem.1 h1).1 b (without_mem.1 h2).1 e
     · dsimp only
       rw [List.map_append, List.append_assoc, ← h.fr, hfr]
       simp [newB]
     · dsimp only
       rw [List.length_append, hid]
       simp
       omega
     · dsimp only at hj
       rcases Nat.lt_or_ge j s.ws.length with hk | hk
       · rw [List.getElem?_append_left hk] at hj
         obtain ⟨y, g, h1, h2⟩ := h.ws j b t hj
         exact ⟨y, g, List.mem_append_left _ h1, h2⟩
       · rw [List.getElem?_append_right hk] at hj
         have hk0 : j = s.ws.length := by
          have := (List.getElem?_eq_some_iff.1 hj).1
          simp at this
          omega
         subst hk0
         rw [Nat.sub_self] at hj
         injection hj with hj
         injection hj with e1 e2
         exact ⟨x, f, by simp, hd', by rw [← e1, hid], e2.symm, hfF⟩
     · rcases with_mem.1 hb with e | e
       · exact .inr ⟨x.body, by rw [e]; simp⟩
       · obtain ⟨h1, h2⟩ := without_mem.1 e
         rcases h.mem b h1 with ⟨a1, a2⟩ | ⟨t, h3⟩
         · exact .inl ⟨a1, (hl1 _).2 ⟨a2, h2⟩⟩
         · exact .inr ⟨t, List.mem_append_left _ h3⟩
     · obtain ⟨h1, h2⟩ := (hl1 _).1 hn
       exact with_mem.2 (.inr (without_mem.2 ⟨h.old b hb h1, h2⟩))
     · rcases List.mem_append.1 hb with e | e
       · exact with_mem.2 (.inr (without_mem.2 ⟨h.new b t e, hwn b t e⟩))
       · rw [List.mem_singleton] at e
         injection e with e1 e2
         exact with_mem.2 (.inl e1)
     · simp only [Bool.or_eq_false_iff, decide_eq_false_iff_not] at hdd
       rcases List.mem_append.1 hb with e | e
       · exact h.dead hdd.1 b t e
       · rw [List.mem_singleton] at e
         injection e with e1 e2
         rw [e1]
         exact hdd.2
     · rw [applied_snoc, ap1, if_neg hd, List.map_append, filter_cn]
       refine List.Perm.trans ?_ (with_perm _ _).symm
       rw [hnb, filter_nm]
       exact (List.perm_append_singleton _ _).trans ((h.pm.filter _).cons _)
     · rw [applied_snoc] at hy
       rcases ap1_sub hy with ⟨y1, y2⟩ | ⟨y1, _⟩
       · obtain ⟨b, b1, b2, b3⟩ := h.rel y y1
         refine ⟨b, with_mem.2 (.inr (without_mem.2 ⟨b1, by rw [b2]; exact y2⟩)), b2, ?_⟩
         rcases b3 with b3 | ⟨b3, b4⟩
         · exact .inl b3
         · exact .inr ⟨List.mem_append_left _ b3, b4⟩
       · subst y1
         exact ⟨_, with_mem.2 (.inl rfl), rfl, .inr ⟨by simp, rfl⟩⟩
theorem PI.plan {L : List Bb} {hv : List Ch} {F : List Nat} {id0 ver : Nat} {G : List Ky} (hF : F.Nodup) (hFL : ∀ f ∈ F, ∀ b ∈ L, b.b ≠ (f : Int)) : ∀ (l l1 : List Ch) (s p : Pl), PI L F id0 ver G hv l1 s → ((l1 ++ l).map Ch.nm).Nodup → plan G ver l s = some p → PI L F id0 ver G hv (l1 ++ l) p
 | [], l1, s, p, h, _, hp => by
  rw [Go.Proofs.YtolaojkcofbkhaaGreat.plan] at hp
  injection hp with hp
  subst hp
  rw [List.append_nil]
  exact h
 | x :: r, l1, s, p, h, hn, hp => by
  rw [Go.Proofs.YtolaojkcofbkhaaGreat.plan] at hp
  cases h1 : pl1 G ver s x with
  | none => rw [h1] at hp; cases hp
  | some s1 =>
   rw [h1] at hp
   have hx : x.nm ∉ l1.map Ch.nm := by
    rw [List.map_append, List.nodup_append] at hn
    intro e
    exact hn.2.2 _ e _ (by simp) rfl
   have h2 := h.step hF hFL hx h1
   have h3 := PI.plan hF hFL r (l1 ++ [x]) s1 p h2 (by rw [List.append_assoc]; exact hn) hp
   rw [List.append_assoc] at h3
   exact h3
def wsOf (nx : List Bb) (l : List Ch) : List (Bb × List UInt8) := l.flatMap fun x => (nx.filter fun b => decide (b.nm = x.nm)).map fun b => (b, x.body)
theorem filter_one {L : List Bb} (h : L.Pairwise risen) {b : Bb} (hb : b ∈ L) : (L.filter fun y => decide (y.nm = b.nm)) = [b] := by
 induction L with
 | nil => cases hb
 | cons z r ih =>
  obtain ⟨h1, h2⟩ := List.pairwise_cons.1 h
  rcases List.mem_cons.1 hb with e | e
  · subst e
    rw [List.filter_cons_of_pos (by simp), List.filter_eq_nil_iff.2 fun y hy => ?_]
    have := less_ne (h1 y hy)
    simpa using fun e => this e.symm
  · rw [List.filter_cons_of_neg, ih h2 e]
    have := less_ne (h1 b e)
    simpa using this
theorem filter_none {L : List Bb} {nm : List UInt8} (h : ∀ b ∈ L, b.nm ≠ nm) : (L.filter fun y => decide (y.nm = nm)) = [] := List.filter_eq_nil_iff.2 fun y hy => by simpa using h y hy
theorem wsOf_is {nx : List Bb} (hr : nx.Pairwise risen) : ∀ (l : List Ch) (ws : List (Bb × List UInt8)), ws.map (fun w => (w.1.nm, w.2)) = (l.filter fun x => !x.drop).map (fun x => (x.nm, x.body)) → (∀ w ∈ ws, w.1 ∈ nx) → (∀ x ∈ l, x.drop = true → ∀ b ∈ nx, b.nm ≠ x.nm) → wsOf nx l = ws
 | [], ws, h, _, _ => by
  have : ws = [] := by simpa using h
  subst this
  rfl
 | x :: r, ws, h, hm, hd => by
  have e0 : wsOf nx (x :: r) = (nx.filter fun b => decide (b.nm = x.nm)).map (fun b => (b, x.body)) ++ wsOf nx r := rfl
  rw [e0]
  by_cases hx : x.drop = true
  · rw [filter_none (hd x (by simp) hx)]
    rw [List.filter_cons_of_neg (by simp [hx])] at h
    show [] ++ wsOf nx r = ws
    rw [List.nil_append]
    exact wsOf_is hr r ws h hm fun y hy => hd y (by simp [hy])
  · have hx' : x.drop = false := by simpa using hx
    rw [List.filter_cons_of_pos (by simp [hx']), List.map_cons] at h
    cases ws with
    | nil => cases h
    | cons w ws =>
     obtain ⟨b, t⟩ := w
     rw [List.map_cons] at h
     injection h with h1 h2
     injection h1 with h3 h4
     dsimp only at h3 h4
     subst h4
     have hb := hm (b, x.body) (by simp)
     rw [← h3, filter_one hr hb, wsOf_is hr r ws h2 (fun w hw => hm w (by simp [hw])) fun y hy => hd y (by simp [hy])]
     rfl
theorem PI.wsOf_ {L : List Bb} {F : List Nat} {id0 ver : Nat} {G : List Ky} {hv l : List Ch} {p : Pl} (h : PI L F id0 ver G hv l p) (hn : (l.map Ch.nm).Nodup) : wsOf p.nx l = p.ws := by
 refine wsOf_is h.rise l p.ws h.seq (fun w hw => h.new w.1 w.2 hw) fun x hx hd b hb e => ?_
 rcases h.mem b hb with ⟨_, h1⟩ | ⟨t, h1⟩
 · exact h1 (by rw [e]; exact List.mem_map_of_mem hx)
 · obtain ⟨j, hj⟩ := List.mem_iff_getElem?.1 h1
   obtain ⟨y, f, y1, y2, y3, _⟩ := h.ws j b t hj
   have e2 : y.nm = x.nm := by rw [y3] at e; exact e
   have e3 : y = x := by
    obtain ⟨a, ha⟩ := List.mem_iff_getElem?.1 y1
    obtain ⟨c, hc⟩ := List.mem_iff_getElem?.1 hx
    obtain ⟨ha', rfl⟩ := List.getElem?_eq_some_iff.1 ha
    obtain ⟨hc', rfl⟩ := List.getElem?_eq_some_iff.1 hc
    have hq := List.pairwise_iff_getElem.1 hn
    rcases Nat.lt_trichotomy a c with hlt | heq | hgt
    · exact absurd (by rw [List.getElem_map, List.getElem_map]; exact e2) (hq a c (by simpa using ha') (by simpa using hc') hlt)
    · subst heq; rfl
    · exact absurd (by rw [List.getElem_map, List.getElem_map]; exact e2.symm) (hq c a (by simpa using hc') (by simpa using ha') hgt)
   rw [e3, hd] at y2
   cases y2
end Go.Proofs.YtolaojkcofbkhaaGreat
