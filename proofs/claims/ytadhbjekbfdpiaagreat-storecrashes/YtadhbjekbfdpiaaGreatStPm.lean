/- What a plan of changes comes to, the map of blocks beside it; of no program's calls. Nothing is assumed. -/
import Derived.Test.YtadhbjekbfdpiaaGreatStLz
namespace Go.Proofs.YtadhbjekbfdpiaaGreat
open Go.RowKit

/-- The free blocks of a map of n blocks, two of them the root's. -/
structure Fo (s : Sp) (n : Nat) (F : List Nat) : Prop where
  len : s.T.length = n
  r : s.r = 2
  fr : ∀ i : Nat, s.T[i]? = some false ↔ i ∈ F
  ri : F.Pairwise (· < ·)
theorem Rm.fo {s : Sp} {n : Nat} {L : List Bb} (h : Rm s n L) : Fo s n (frs n L) := by
  refine ⟨h.len, h.r, fun i => ?_, frs_rise n L⟩
  rw [frs_mem]
  constructor
  · intro hf
    have hi : i < n := by rw [← h.len]; exact Sp.lt_of hf
    have := h.tk i hi
    rw [hf] at this
    have hn : ¬ (i < 2 ∨ ∃ x ∈ L, x.b = (i : Int)) := fun e => by have := this.2 e; cases this
    exact ⟨⟨by omega, hi⟩, fun x hx e => hn (.inr ⟨x, hx, e⟩)⟩
  · rintro ⟨⟨h2, hi⟩, hP⟩
    exact h.fr h2 hi hP
theorem Fo.none_ {s : Sp} {n : Nat} (h : Fo s n []) : s.any = false := by
  have : ∀ i, i < s.T.length → s.T[i]? = some true := fun i hi => by
    have h1 := h.fr i
    rw [List.getElem?_eq_getElem hi] at h1 ⊢
    cases hb : s.T[i] with
    | true => rfl
    | false => rw [hb] at h1; exact absurd (h1.1 rfl) (by simp)
  unfold Sp.any Sp.least
  rw [idx_none this]
  simp
theorem Fo.some_ {s : Sp} {n f : Nat} {r : List Nat} (h : Fo s n (f :: r)) : s.any = true ∧ s.takeN = f ∧ Fo s.take n r ∧ f < n := by
  have hf : s.T[f]? = some false := (h.fr f).2 (by simp)
  have hlt : f < s.T.length := Sp.lt_of hf
  have hri := List.pairwise_cons.1 h.ri
  have hl : s.least = f := idx_of (fun i hi => by
    have hi2 : i < s.T.length := by omega
    have h1 := h.fr i
    rw [List.getElem?_eq_getElem hi2] at h1 ⊢
    cases hb : s.T[i] with
    | true => rfl
    | false =>
      rw [hb] at h1
      have := h1.1 rfl
      rw [List.mem_cons] at this
      rcases this with e | e
      · omega
      · have := hri.1 i e; omega) hf
  have ha : s.any = true := by unfold Sp.any; rw [hl]; exact decide_eq_true hlt
  refine ⟨ha, by unfold Sp.takeN; rw [ha, hl]; rfl, ⟨by rw [Sp.take_len]; exact h.len, h.r, fun i => ?_, hri.2⟩, by rw [← h.len]; exact hlt⟩
  show (s.T.set s.least true)[i]? = _ ↔ _
  rw [hl, List.getElem?_set]
  by_cases e : f = i
  · subst e
    rw [if_pos rfl, if_pos hlt]
    exact ⟨fun e => (by cases e), fun e => by have := hri.1 f e; omega⟩
  · rw [if_neg e, h.fr, List.mem_cons]
    exact ⟨fun a => a.resolve_left fun a => e a.symm, .inr⟩
/-- The map of blocks while those that were are given back. -/
structure Gv (s : Sp) (n : Nat) (L : List Bb) (W : List Nat) (N : List (List UInt8)) : Prop where
  len : s.T.length = n
  r : s.r = 2
  tk : ∀ i : Nat, i < n → (s.T[i]? = some true ↔ (i < 2 ∨ (∃ x ∈ L, x.b = (i : Int) ∧ x.nm ∉ N) ∨ i ∈ W))
theorem Fo.gv {s : Sp} {n : Nat} {L : List Bb} {W fr : List Nat} (h : Fo s n fr) (he : W ++ fr = frs n L) : Gv s n L W [] := by
  refine ⟨h.len, h.r, fun i hi => ?_⟩
  have hl : i < s.T.length := by rw [h.len]; exact hi
  have h1 := h.fr i
  have hm : i ∈ frs n L ↔ i ∈ W ∨ i ∈ fr := by rw [← he, List.mem_append]
  have hnd : i ∈ W → i ∉ fr := by
    have := frs_nodup n L
    rw [← he, List.nodup_append] at this
    exact fun a b => this.2.2 i a i b rfl
  rw [frs_mem] at hm
  have h2 : s.T[i]? = some true ↔ i ∉ fr := by
    rw [List.getElem?_eq_getElem hl] at h1 ⊢
    cases hb : s.T[i] with
    | true => rw [hb] at h1; exact ⟨fun _ e => (nomatch (h1.2 e)), fun _ => rfl⟩
    | false => rw [hb] at h1; exact ⟨fun e => (by cases e), fun e => absurd (h1.1 rfl) e⟩
  rw [h2]
  constructor
  · intro hn
    by_cases hw : i ∈ W
    · exact .inr (.inr hw)
    · by_cases h3 : i < 2
      · exact .inl h3
      · refine .inr (.inl ?_)
        refine Classical.byContradiction fun h4 => ?_
        refine (hm.1 ⟨⟨by omega, hi⟩, fun x hx e => h4 ⟨x, hx, e, by simp⟩⟩).elim hw hn
  · rintro (h3 | ⟨x, hx, h4, _⟩ | h5)
    · intro e; have := hm.2 (.inr e); omega
    · intro e; exact (hm.2 (.inr e)).2 x hx h4
    · exact hnd h5
theorem Sp.give_at {s : Sp} {j : Nat} (hr : s.r ≤ j) (i : Nat) : (s.give (j : Int)).T[i]? = some true ↔ i ≠ j ∧ s.T[i]? = some true := by
  unfold Sp.give
  cases hg : s.gv (j : Int) with
  | true =>
    rw [if_pos rfl]
    show (s.T.set (j : Int).toNat false)[i]? = _ ↔ _
    rw [Int.toNat_natCast, List.getElem?_set]
    by_cases e : j = i
    · subst e
      rw [if_pos rfl]
      split <;> simp
    · rw [if_neg e]
      exact ⟨fun h => ⟨fun h2 => e h2.symm, h⟩, fun h => h.2⟩
  | false =>
    rw [if_neg (by simp)]
    refine ⟨fun h => ⟨fun e => ?_, h⟩, fun h => h.2⟩
    subst e
    have := (s.gv_iff (i : Int)).2 ⟨i, rfl, h, hr⟩
    rw [hg] at this
    cases this
theorem Gv.step {s : Sp} {n : Nat} {L : List Bb} {W : List Nat} {N : List (List UInt8)} (h : Gv s n L W N) (hr : L.Pairwise risen) (hi : ∀ x ∈ L, ∀ y ∈ L, x.b = y.b → x = y) (hb : ∀ x ∈ L, 2 ≤ x.b ∧ x.b < (n : Int)) (hW : ∀ f ∈ W, ∀ x ∈ L, x.b ≠ (f : Int)) (nm : List UInt8) :
    (isB L nm = true → Gv (s.give (getB L nm).b) n L W (N ++ [nm])) ∧ (isB L nm = false → Gv s n L W (N ++ [nm])) := by
  unfold isB getB
  cases hf : fnd L nm with
  | none =>
    refine ⟨fun e => (by cases e), fun _ => ⟨h.len, h.r, fun i hi2 => ?_⟩⟩
    rw [h.tk i hi2]
    have hno : ∀ x ∈ L, x.nm ≠ nm := fun x hx e => fnd_none.1 hf (by rw [← e]; exact List.mem_map_of_mem hx)
    refine or_congr Iff.rfl (or_congr ⟨?_, ?_⟩ Iff.rfl)
    · rintro ⟨x, a, b, c⟩
      exact ⟨x, a, b, by rw [List.mem_append, List.mem_singleton]; exact fun e => e.elim c (hno x a)⟩
    · rintro ⟨x, a, b, c⟩
      exact ⟨x, a, b, fun e => c (List.mem_append_left _ e)⟩
  | some y =>
    obtain ⟨hy, hyn⟩ := fnd_some hf
    refine ⟨fun _ => ?_, fun e => by cases e⟩
    show Gv (s.give y.b) n L W (N ++ [nm])
    obtain ⟨h2, h3⟩ := hb y hy
    obtain ⟨j, hj⟩ : ∃ j : Nat, y.b = (j : Int) := ⟨y.b.toNat, by omega⟩
    rw [hj] at h2 h3 ⊢
    refine ⟨by rw [Sp.give_len]; exact h.len, by rw [Sp.give_r]; exact h.r, fun i hi2 => ?_⟩
    rw [Sp.give_at (by rw [h.r]; omega), h.tk i hi2]
    constructor
    · rintro ⟨hij, a | ⟨x, a, b, c⟩ | a⟩
      · exact .inl a
      · refine .inr (.inl ⟨x, a, b, ?_⟩)
        rw [List.mem_append, List.mem_singleton]
        rintro (e | e)
        · exact c e
        · have : x = y := risen_ne hr a hy (e.trans hyn.symm)
          subst this
          omega
      · exact .inr (.inr a)
    · rintro (a | ⟨x, a, b, c⟩ | a)
      · exact ⟨by omega, .inl a⟩
      · refine ⟨fun e => ?_, .inr (.inl ⟨x, a, b, fun e => c (List.mem_append_left _ e)⟩)⟩
        have : x = y := hi x a y hy (by rw [b, hj, e])
        subst this
        exact c (by rw [List.mem_append, List.mem_singleton]; exact .inr hyn)
      · exact ⟨fun e => hW i a y hy (by rw [hj, e]), .inr (.inr a)⟩
theorem PI.rm {L : List Bb} {F : List Nat} {id0 ver n : Nat} {G : List Ky} {hv l : List Ch} {p : Pl} {s : Sp} (h : PI L F id0 ver G hv l p) (hg : Gv s n L (p.ws.map fun w => w.1.b.toNat) (l.map Ch.nm)) : Rm s n p.nx := by
  refine ⟨hg.len, hg.r, fun i hi => ?_⟩
  rw [hg.tk i hi]
  have hwb : ∀ b t, (b, t) ∈ p.ws → b.b = (b.b.toNat : Int) := by
    intro b t hb
    obtain ⟨j, hj⟩ := List.mem_iff_getElem?.1 hb
    obtain ⟨y, f, _, _, h2, _⟩ := h.ws j b t hj
    rw [h2]
    show (f : Int) = ((f : Int).toNat : Int)
    omega
  refine or_congr Iff.rfl ⟨?_, ?_⟩
  · rintro (⟨x, a, b, c⟩ | a)
    · exact ⟨x, h.old x a c, b⟩
    · obtain ⟨⟨b, t⟩, h1, h2⟩ := List.mem_map.1 a
      exact ⟨b, h.new b t h1, (hwb b t h1).trans (by rw [← h2])⟩
  · rintro ⟨x, a, b⟩
    rcases h.mem x a with ⟨h1, h2⟩ | ⟨t, h1⟩
    · exact .inl ⟨x, h1, b, h2⟩
    · exact .inr (List.mem_map.2 ⟨(x, t), h1, by show x.b.toNat = i; rw [b]; omega⟩)
theorem plan_app (G : List Ky) (ver : Nat) : ∀ (a b : List Ch) (s : Pl), plan G ver (a ++ b) s = (plan G ver a s).bind (plan G ver b)
  | [], b, s => rfl
  | x :: a, b, s => by
    rw [List.cons_append, plan, plan]
    cases h : pl1 G ver s x with
    | none => rfl
    | some p => exact plan_app G ver a b p
theorem plan_snoc (G : List Ky) (ver : Nat) (a : List Ch) (x : Ch) (s : Pl) : plan G ver (a ++ [x]) s = (plan G ver a s).bind fun p => pl1 G ver p x := by
  rw [plan_app]
  cases plan G ver a s with
  | none => rfl
  | some p =>
    show (pl1 G ver p x).bind (plan G ver []) = pl1 G ver p x
    cases pl1 G ver p x <;> rfl
theorem entsB_len : ∀ (l : List Bb) (q : Nat), (∀ x ∈ l, x.wf ∧ x.nm.length ≤ q) → (entsB l).length ≤ l.length * (q + 80)
  | [], _, _ => by simp [entsB]
  | x :: l, q, h => by
    have h1 := entB_len (h x (by simp)).1
    have h2 := (h x (by simp)).2
    have h3 := entsB_len l q fun y hy => h y (by simp [hy])
    unfold entsB at h3 ⊢
    rw [List.flatMap_cons, List.length_append, List.length_cons, Nat.succ_mul]
    omega
/-- What a plan comes to, of blobs that are right. -/
theorem PI.wf_ {L : List Bb} {F : List Nat} {id0 ver q : Nat} {G : List Ky} {hv l : List Ch} {p : Pl} (h : PI L F id0 ver G hv l p) (hL : ∀ x ∈ L, x.wf ∧ x.nm.length ≤ q) (hl : ∀ x ∈ l, x.k.wf ∧ x.nm.length ≤ q ∧ x.body.length ≤ 1000000) (hq : q ≤ 100000) (hF : ∀ f ∈ F, f < 5000) (hid0 : id0 + l.length ≤ 1000000000000) (hver : ver ≤ 1000000) : ∀ x ∈ p.nx, x.wf ∧ x.nm.length ≤ q := by
  intro x hx
  rcases h.mem x hx with ⟨h1, _⟩ | ⟨t, h1⟩
  · exact hL x h1
  · obtain ⟨j, hj⟩ := List.mem_iff_getElem?.1 h1
    obtain ⟨y, f, a, _, rfl, _, hf⟩ := h.ws j x t hj
    obtain ⟨b1, b2, b3⟩ := hl y a
    have hj2 : j < p.ws.length := (List.getElem?_eq_some_iff.1 hj).1
    have hwl := h.wl
    have := hF f hf
    refine ⟨⟨?_, b1, ?_, ?_, ?_, ?_⟩, b2⟩
    · show y.nm.length < _
      omega
    · show i64ok (f : Int)
      unfold i64ok; omega
    · show i64ok ((id0 + j + 1 : Nat) : Int)
      unfold i64ok; omega
    · show i64ok ((ver + 1 : Nat) : Int)
      unfold i64ok; omega
    · show i64ok (y.body.length : Int)
      unfold i64ok; omega
theorem PI.init_ {L : List Bb} {F : List Nat} {id0 ver : Nat} {G : List Ky} (hr : L.Pairwise risen) (hi : ∀ x ∈ L, ∀ y ∈ L, x.b = y.b → x = y) : PI L F id0 ver G (L.map fun b => ⟨b.nm, b.k, [], false⟩) [] ⟨L, id0, F, false, []⟩ :=
  PI.init hr hi (by rw [List.map_map]; exact List.Perm.refl _) (by
    intro y hy
    obtain ⟨b, hb, rfl⟩ := List.mem_map.1 hy
    exact ⟨b, hb, rfl⟩)
end Go.Proofs.YtadhbjekbfdpiaaGreat
