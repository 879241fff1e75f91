import Derived.Test.YtolaojkcofbkhaaGreatBase
namespace Go.Proofs.YtolaojkcofbkhaaGreat
abbrev Bl := Nat → List UInt8
abbrev Wr := List (Nat × List UInt8)
def upd (K : Bl) (i : Nat) (b : List UInt8) : Bl := fun j => if j = i then b else K j
theorem upd_same (K : Bl) (i : Nat) (b : List UInt8) : upd K i b i = b := by simp [upd]
theorem upd_other (K : Bl) {i j : Nat} (b : List UInt8) (h : j ≠ i) : upd K i b j = K j := by simp [upd, h]
theorem upd_upd (K : Bl) (i : Nat) (b c : List UInt8) : upd (upd K i c) i b = upd K i b := by
 funext j; by_cases h : j = i <;> simp [upd, h]
theorem upd_comm (K : Bl) {i j : Nat} (b c : List UInt8) (h : j ≠ i) : upd (upd K i b) j c = upd (upd K j c) i b := by
 funext k
 by_cases h1 : k = i
 · subst h1; simp [upd, Ne.symm h]
 · by_cases h2 : k = j
   · subst h2; simp [upd, h]
   · simp [upd, h1, h2]
def app : Wr → Bl → Bl
 | [], K => K
 | x :: r, K => app r (upd K x.1 x.2)
theorem app_append (a b : Wr) (K : Bl) : app (a ++ b) K = app b (app a K) := by
 induction a generalizing K with
 | nil => rfl
 | cons x r ih => exact ih _
theorem app_snoc (W : Wr) (K : Bl) (i : Nat) (b : List UInt8) : app (W ++ [(i, b)]) K = upd (app W K) i b := by rw [app_append]; rfl
theorem app_out (W : Wr) (K : Bl) (i : Nat) (h : ∀ x ∈ W, x.1 ≠ i) : app W K i = K i := by
 induction W generalizing K with
 | nil => rfl
 | cons x r ih => exact (ih _ fun y hy => h y (by simp [hy])).trans (upd_other _ _ (Ne.symm (h x (by simp))))
theorem app_len (W : Wr) (K : Bl) (hK : ∀ i, (K i).length = 16) (hW : ∀ x ∈ W, x.2.length = 16) : ∀ i, (app W K i).length = 16 := by
 induction W generalizing K with
 | nil => exact hK
 | cons x r ih =>
  refine ih _ (fun i => ?_) (fun y hy => hW y (by simp [hy]))
  unfold upd
  split
  · exact hW x (by simp)
  · exact hK i
theorem app_filter (W : Wr) (K : Bl) (i : Nat) (b : List UInt8) : app (W.filter fun x => decide (x.1 ≠ i)) (upd K i b) = upd (app W K) i b := by
 induction W generalizing K with
 | nil => rfl
 | cons x r ih =>
  by_cases h : x.1 = i
  · rw [List.filter_cons_of_neg (by simp [h])]
    show _ = upd (app r (upd K x.1 x.2)) i b
    rw [← ih, h, upd_upd]
  · rw [List.filter_cons_of_pos (by simp [h])]
    show app _ (upd (upd K i b) x.1 x.2) = upd (app r (upd K x.1 x.2)) i b
    rw [← ih, upd_comm _ _ _ h]
def ke (W : Wr) (keep : List Bool) : Wr := ((W.zipIdx).filter fun x => keep[x.2]? == some true).map (·.1)
theorem ke_snoc (W : Wr) (x : Nat × List UInt8) (keep : List Bool) : ke (W ++ [x]) keep = ke W keep ++ (if keep[W.length]? = some true then [x] else []) := by
 unfold ke
 rw [List.zipIdx_append, List.filter_append, List.map_append]
 congr 1
 by_cases h : keep[W.length]? = some true <;> simp [h]
theorem ke_mem (W : Wr) (keep : List Bool) (x : Nat × List UInt8) (h : x ∈ ke W keep) : x ∈ W := by
 unfold ke at h
 rw [List.mem_map] at h
 obtain ⟨⟨y, n⟩, hy, rfl⟩ := h
 have := (List.mem_filter.1 hy).1
 exact (List.mem_zipIdx this).2.2 ▸ List.getElem_mem _
def pad (b : List UInt8) : List UInt8 := b ++ List.replicate (16 - b.length) 0
theorem pad_len (b : List UInt8) (h : b.length ≤ 16) : (pad b).length = 16 := by simp [pad]; omega
def zero : Bl := fun _ => List.replicate 16 0
structure St where
 n : Nat
 K : Bl
 W : Wr
 lim : Option Nat
def St.dec (s : St) : St := { s with lim := s.lim.map (· - 1) }
def St.put (s : St) (i : Nat) (b : List UInt8) : St := { s with W := s.W ++ [(i, pad b)] }
def St.sync (s : St) : St := { s with K := app s.W s.K, W := [] }
def St.crash (s : St) (keep : List Bool) : St := { s with K := app (ke s.W keep) s.K, W := [], lim := none }
def St.over (s : St) (i : Nat) (b : List UInt8) : St := { s with K := upd s.K i (pad b), W := s.W.filter fun x => decide (x.1 ≠ i) }
def St.bound (s : St) (c : Int) : St := { s with lim := some c.toNat }
structure St.ok (s : St) : Prop where
 n1 : 1 ≤ s.n
 n2 : s.n ≤ 4096
 K : ∀ i, (s.K i).length = 16
 W : ∀ x ∈ s.W, x.1 < s.n ∧ x.2.length = 16
 lim : ∀ c, s.lim = some c → c ≤ 9223372036854775807
theorem St.ok.S {s : St} (h : s.ok) (i : Nat) : (app s.W s.K i).length = 16 := app_len _ _ h.K (fun x hx => (h.W x hx).2) i
theorem upd_len {K : Bl} (hK : ∀ i, (K i).length = 16) {i : Nat} {b : List UInt8} (hb : b.length = 16) : ∀ j, (upd K i b j).length = 16 := by
 intro j
 unfold upd
 split
 · exact hb
 · exact hK j
theorem St.ok.put {s : St} (h : s.ok) {i : Nat} (hi : i < s.n) {b : List UInt8} (hb : b.length ≤ 16) : (s.put i b).ok := ⟨h.n1, h.n2, h.K, fun x hx => (by
 rcases List.mem_append.1 hx with hx | hx
 · exact h.W x hx
 · rw [List.mem_singleton] at hx; subst hx; exact ⟨hi, pad_len b hb⟩), h.lim⟩
theorem St.ok.over {s : St} (h : s.ok) (i : Nat) {b : List UInt8} (hb : b.length ≤ 16) : (s.over i b).ok :=
 ⟨h.n1, h.n2, upd_len h.K (pad_len b hb), fun x hx => h.W x (List.mem_filter.1 hx).1, h.lim⟩
def St.new (n : Nat) : St := ⟨n, zero, [], none⟩
theorem St.ok_new {n : Nat} (h1 : 1 ≤ n) (h2 : n ≤ 4096) : (St.new n).ok := ⟨h1, h2, fun _ => rfl, fun x hx => (by cases hx), fun c hc => by cases hc⟩
end Go.Proofs.YtolaojkcofbkhaaGreat
