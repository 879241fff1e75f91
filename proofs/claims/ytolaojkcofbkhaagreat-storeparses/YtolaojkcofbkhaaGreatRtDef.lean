/- What a root's Put and Get answer, as functions of the device, the vault and the cell; and what holds of roots whatever crash comes and whatever another hand lays, as plain mathematics. Nothing is assumed. -/
import Derived.Test.YtolaojkcofbkhaaGreatPgDf
namespace Go.Proofs.YtolaojkcofbkhaaGreat
open Go.RowKit

/-- A cell: the version, the mark. -/
structure Ce where
  ver : Nat
  mark : Nat
/-- The root of a cell: the page, the block. -/
def rtP (c : Ce) : Pg := ⟨⟨0, 0, 0⟩, (c.mark : Int), (c.ver : Int)⟩
def rtI (c : Ce) : Int := ((c.ver % 2 : Nat) : Int)
/-- The cell behind a Put that is OK. -/
def nxt (v : Va) (c : Ce) : Ce := ⟨c.ver + 1, v.L.length + 1⟩
def ptE (d : St) (v : Va) (c : Ce) (n : Nat) : Int := if pwE d v (rtI (nxt v c)) (rtP (nxt v c)) n ≠ 0 then pwE d v (rtI (nxt v c)) (rtP (nxt v c)) n else caE (syS (pwD d v (rtI (nxt v c)) (rtP (nxt v c)) n))
def ptD (d : St) (v : Va) (c : Ce) (n : Nat) : St := if pwE d v (rtI (nxt v c)) (rtP (nxt v c)) n ≠ 0 then pwD d v (rtI (nxt v c)) (rtP (nxt v c)) n else beS (syS (pwD d v (rtI (nxt v c)) (rtP (nxt v c)) n))
def ptV (d : St) (v : Va) (c : Ce) (l : List UInt8) : Va := pwV d v (rtI (nxt v c)) (rtP (nxt v c)) l
def ptC (d : St) (v : Va) (c : Ce) (n : Nat) : Ce := if ptE d v c n = 0 then nxt v c else c
def gtE (d : St) (v : Va) (c : Ce) : Int := if c.ver = 0 then 90 else prE d v (rtI c) (rtP c)
def gtB (d : St) (v : Va) (c : Ce) : List UInt8 := if c.ver = 0 then [] else prB d v (rtI c) (rtP c)
theorem rtP_wf {c : Ce} (h1 : c.ver ≤ 1000000000) (h2 : c.mark ≤ 1000000000) : (rtP c).wf := by
  unfold rtP Pg.wf Ky.wf i64ok
  refine ⟨⟨⟨?_, ?_⟩, ⟨?_, ?_⟩, ?_, ?_⟩, ⟨?_, ?_⟩, ?_, ?_⟩ <;> dsimp only <;> omega
theorem rtI_ok (c : Ce) : i64ok (rtI c) := by unfold rtI i64ok; omega
theorem caE_is (d : St) : caE d = 0 ∨ caE d = 40 := by unfold caE; split <;> simp
theorem caE_off {d : St} (h : caE d ≠ 0) : d.lim = some 0 := by
  unfold caE at h
  split at h
  · assumption
  · exact absurd rfl h
theorem caE_on {d : St} (h : caE d = 0) : ¬ d.lim = some 0 := by
  intro e
  rw [caE, if_pos e] at h
  cases h
theorem syS_off {d : St} (h : caE d ≠ 0) : syS d = d := by rw [syS, if_pos (caE_off h)]
theorem beS_off {d : St} (h : caE d ≠ 0) : beS d = d := by rw [beS, if_pos (caE_off h)]
theorem ptD_n (d : St) (v : Va) (c : Ce) (n : Nat) : (ptD d v c n).n = d.n := by
  unfold ptD
  split
  · exact pwD_n _ _ _ _ _
  · rw [beS_n, syS_n, pwD_n]
theorem ptD_W (d : St) (v : Va) (c : Ce) (n : Nat) : (ptD d v c n).W.length ≤ d.W.length + 1 := by
  have h1 := pwD_W d v (rtI (nxt v c)) (rtP (nxt v c)) n
  unfold ptD
  split
  · exact h1
  · generalize pwD d v (rtI (nxt v c)) (rtP (nxt v c)) n = e at *
    have h2 : (syS e).W.length ≤ e.W.length := by
      unfold syS
      split
      · exact Nat.le_refl _
      · exact Nat.zero_le _
    have h3 : (beS (syS e)).W.length ≤ (syS e).W.length := by
      unfold beS
      split
      · exact Nat.le_refl _
      · exact Nat.le_refl _
    omega
theorem ptV_L (d : St) (v : Va) (c : Ce) (l : List UInt8) : (ptV d v c l).L.length ≤ v.L.length + 1 ∧ (ptV d v c l).G = v.G := pwV_L _ _ _ _ _
theorem ptC_ver (d : St) (v : Va) (c : Ce) (n : Nat) : (ptC d v c n).ver ≤ c.ver + 1 ∧ ((ptC d v c n).mark ≤ c.mark ∨ (ptC d v c n).mark ≤ v.L.length + 1) := by
  unfold ptC
  split
  · exact ⟨Nat.le_refl _, .inr (Nat.le_refl _)⟩
  · exact ⟨by omega, .inl (Nat.le_refl _)⟩
theorem zk_r : (⟨0, 0, 0⟩ : Ky).right := by unfold Ky.right; decide

/-- What holds of a device, a vault and a cell behind Puts, crashes and other hands: the plain bytes of the last Put that was OK; whether another hand has laid something. -/
structure Rt (d : St) (v : Va) (c : Ce) (now : List UInt8) (laid : Bool) : Prop where
  n : 2 ≤ d.n
  G : v.G = []
  es : ∀ k x, v.L[k]? = some x → ∃ (p : Pg) (i : Int), p.wf ∧ i64ok i ∧ p.id = ((k + 1 : Nat) : Int) ∧ x.k = p.k ∧ x.b = besd p i
  ver : c.ver ≤ v.L.length
  at_ : 0 < c.ver → 1 ≤ c.mark ∧ v.L[c.mark - 1]? = some ⟨⟨0, 0, 0⟩, besd (rtP c) (rtI c), now⟩
  dv : laid = false → 0 < c.ver → d.K (c.ver % 2) = pad (le8 c.mark) ∧ ∀ x ∈ d.W, x.1 ≠ c.ver % 2
theorem es_snoc {L : List En} {e : En} {p : Pg} {i : Int} (h : ∀ k x, L[k]? = some x → ∃ (p : Pg) (i : Int), p.wf ∧ i64ok i ∧ p.id = ((k + 1 : Nat) : Int) ∧ x.k = p.k ∧ x.b = besd p i)
    (hp : p.wf) (hi : i64ok i) (hid : p.id = ((L.length + 1 : Nat) : Int)) (hk : e.k = p.k) (hb : e.b = besd p i) :
    ∀ k x, (L ++ [e])[k]? = some x → ∃ (p : Pg) (i : Int), p.wf ∧ i64ok i ∧ p.id = ((k + 1 : Nat) : Int) ∧ x.k = p.k ∧ x.b = besd p i := by
  intro k x hx
  rcases Nat.lt_or_ge k L.length with hk' | hk'
  · rw [List.getElem?_append_left hk'] at hx
    exact h k x hx
  · rw [List.getElem?_append_right hk'] at hx
    have hk0 : k = L.length := by
      have := (List.getElem?_eq_some_iff.1 hx).1
      simp at this
      omega
    subst hk0
    rw [Nat.sub_self] at hx
    injection hx with hx
    subst hx
    exact ⟨p, i, hp, hi, hid, hk, hb⟩
theorem Rt.new {n : Nat} (h : 2 ≤ n) (now : List UInt8) : Rt (St.new n) Va.new ⟨0, 0⟩ now false :=
  ⟨h, rfl, fun k x hx => by simp [Va.new] at hx, Nat.zero_le _, fun h => absurd h (by decide), fun _ h => absurd h (by decide)⟩
section
variable {d : St} {v : Va} {c : Ce} {now : List UInt8} {laid : Bool}
theorem Rt.mark (h : Rt d v c now laid) (h0 : 0 < c.ver) : c.mark ≤ v.L.length := by
  obtain ⟨h1, h2⟩ := h.at_ h0
  have := (List.getElem?_eq_some_iff.1 h2).1
  omega
theorem Rt.crash (h : Rt d v c now laid) (keep : List Bool) : Rt (d.crash keep) v c now laid := by
  refine ⟨h.n, h.G, h.es, h.ver, h.at_, fun hl h0 => ⟨?_, fun x hx => by cases hx⟩⟩
  obtain ⟨h1, h2⟩ := h.dv hl h0
  show app (ke d.W keep) d.K _ = _
  rw [app_out _ _ _ fun x hx => h2 x (ke_mem _ _ x hx)]
  exact h1
theorem Rt.bound (h : Rt d v c now laid) (i : Int) : Rt (d.bound i) v c now laid := ⟨h.n, h.G, h.es, h.ver, h.at_, h.dv⟩
theorem Rt.over (h : Rt d v c now laid) (i : Int) (l : List UInt8) : Rt (ovS d i l) v c now true := ⟨by rw [ovS_n]; exact h.n, h.G, h.es, h.ver, h.at_, fun e => by cases e⟩
/-- What is got, behind anything. -/
theorem Rt.got (h : Rt d v c now laid) (hL : v.L.length ≤ 1000000) (h0 : 0 < c.ver) :
    (gtE d v c = 0 ∧ gtB d v c = now) ∨ (gtE d v c = 40 ∧ d.lim = some 0) ∨ (gtE d v c = 51 ∧ laid = true) := by
  obtain ⟨a1, a2⟩ := h.at_ h0
  have am := h.mark h0
  have hm : i64ok (rtI c) := rtI_ok c
  have hi : ¬ bad d (rtI c) 0 := by unfold bad rtI; have := h.n; omega
  have hz : ¬ c.ver = 0 := by omega
  unfold gtE gtB
  rw [if_neg hz, if_neg hz]
  unfold prE prB
  by_cases ho : d.lim = some 0
  · have e1 : rdE d (rtI c) = 40 := by unfold rdE; rw [if_neg hi, if_pos ho]
    rw [if_pos (by rw [e1]; decide)]
    exact .inr (.inl ⟨e1, ho⟩)
  have e1 : rdE d (rtI c) = 0 := by unfold rdE; rw [if_neg hi, if_neg ho]
  have e2 : rdB d (rtI c) = app d.W d.K (c.ver % 2) := by
    unfold rdB
    rw [if_neg (by rintro (e | e); exact hi e; exact ho e)]
    rfl
  have e3 : ¬ rdE d (rtI c) ≠ 0 := fun e => e e1
  rw [if_neg e3, if_neg e3, e2]
  have hg : ¬ (rtP c).k ∈ v.G := by rw [h.G]; exact List.not_mem_nil
  have hcw : (rtP c).wf := rtP_wf (by have := h.ver; omega) (by omega)
  -- any handle whose entry opens is the mark
  have key : ∀ hd : Nat, hd ≠ 0 → (opE v (rtP c).k (besd (rtP c) (rtI c)) hd = 0 ∧ opB v (rtP c).k (besd (rtP c) (rtI c)) hd = now ∧ hd = c.mark) ∨ (opE v (rtP c).k (besd (rtP c) (rtI c)) hd = 51 ∧ hd ≠ c.mark) := by
    intro hd hd0
    unfold opE opB opX behind
    rw [if_neg hg, if_neg hg, if_neg hd0]
    by_cases he : hd = c.mark
    · subst he
      refine .inl ?_
      have hone : (if (⟨0, 0, 0⟩ : Ky) = (rtP c).k ∧ besd (rtP c) (rtI c) = besd (rtP c) (rtI c) then some now else none) = some now := if_pos ⟨rfl, rfl⟩
      rw [a2]
      refine ⟨?_, ?_, rfl⟩
      · show (if Option.isSome (if (⟨0, 0, 0⟩ : Ky) = (rtP c).k ∧ besd (rtP c) (rtI c) = besd (rtP c) (rtI c) then some now else none) = true then (0 : Int) else 51) = 0
        rw [hone]; rfl
      · show (if (⟨0, 0, 0⟩ : Ky) = (rtP c).k ∧ besd (rtP c) (rtI c) = besd (rtP c) (rtI c) then some now else none).getD [] = now
        rw [hone]; rfl
    · refine .inr ⟨?_, he⟩
      cases hx : v.L[hd - 1]? with
      | none => rfl
      | some x =>
        obtain ⟨q, i, q0, q1, q2, _, q3⟩ := h.es _ x hx
        have hn : ¬ (x.k = (rtP c).k ∧ x.b = besd (rtP c) (rtI c)) := by
          rintro ⟨_, e⟩
          rw [q3] at e
          obtain ⟨e4, _⟩ := besd_inj q0 hcw q1 (rtI_ok c) e
          have e5 : q.id = (c.mark : Int) := congrArg Pg.id e4
          omega
        show (if Option.isSome (if x.k = (rtP c).k ∧ x.b = besd (rtP c) (rtI c) then some x.p else none) = true then (0 : Int) else 51) = 51
        rw [if_neg hn]; rfl
  by_cases hf : hOf (app d.W d.K (c.ver % 2)) = 0
  · rw [if_pos hf, if_pos hf]
    refine .inr (.inr ⟨rfl, ?_⟩)
    cases hl : laid with
    | true => rfl
    | false =>
      obtain ⟨k1, k2⟩ := h.dv hl h0
      rw [app_out _ _ _ k2, k1, hOf_le8 _ (by omega)] at hf
      omega
  · rw [if_neg hf, if_neg hf]
    rcases key _ hf with ⟨k1, k2, _⟩ | ⟨k1, k2⟩
    · exact .inl ⟨k1, k2⟩
    · refine .inr (.inr ⟨k1, ?_⟩)
      cases hl : laid with
      | true => rfl
      | false =>
        obtain ⟨j1, j2⟩ := h.dv hl h0
        rw [app_out _ _ _ j2, j1, hOf_le8 _ (by omega)] at k2
        exact absurd rfl k2
/-- Behind a Put. -/
theorem Rt.put (h : Rt d v c now laid) (hL : v.L.length ≤ 1000000) {l : List UInt8} (hl : l.length ≤ 65536) :
    (ptE d v c l.length = 0 ∧ Rt (ptD d v c l.length) (ptV d v c l) (ptC d v c l.length) l laid ∧ (ptC d v c l.length).ver = c.ver + 1) ∨ (ptE d v c l.length = 40 ∧ Rt (ptD d v c l.length) (ptV d v c l) (ptC d v c l.length) now laid ∧ ptC d v c l.length = c) := by
  have hi0 : ¬ (rtI (nxt v c) < 0 ∨ (d.n : Int) ≤ rtI (nxt v c)) := by unfold rtI; have := h.n; omega
  obtain ⟨s1, s2⟩ := se_ok (v := v) (k := (rtP (nxt v c)).k) (n := l.length) zk_r hl h.G
  have s3 := seS_ok (v := v) (k := (rtP (nxt v c)).k) (b := besd (rtP (nxt v c)) (rtI (nxt v c))) (l := l) zk_r hl h.G
  have eV : ptV d v c l = ⟨v.L ++ [⟨⟨0, 0, 0⟩, besd (rtP (nxt v c)) (rtI (nxt v c)), l⟩], []⟩ := by
    unfold ptV pwV
    rw [if_neg hi0]
    exact s3
  have e8 : (le8 (v.L.length + 1)).length = 8 := le_len 8 _
  have hb8 : ¬ bad d (rtI (nxt v c)) 8 := by unfold bad; omega
  have hE : pwE d v (rtI (nxt v c)) (rtP (nxt v c)) l.length = caE d := by
    unfold pwE
    rw [if_neg hi0, if_neg (fun e => e s1)]
    unfold wrE
    rw [if_neg hb8]
  have hD : pwD d v (rtI (nxt v c)) (rtP (nxt v c)) l.length = if d.lim = some 0 then d else (d.put ((c.ver + 1) % 2) (le8 (v.L.length + 1))).dec := by
    unfold pwD
    rw [if_neg hi0, if_neg (fun e => e s1), s2]
    unfold wrS
    rw [e8]
    by_cases ho : d.lim = some 0
    · rw [if_pos (.inr ho), if_pos ho]
    · rw [if_neg (by rintro (e | e); exact hb8 e; exact ho e), if_neg ho]
      rfl
  have hcv := h.ver
  have es' : ∀ k x, (ptV d v c l).L[k]? = some x → ∃ (p : Pg) (i : Int), p.wf ∧ i64ok i ∧ p.id = ((k + 1 : Nat) : Int) ∧ x.k = p.k ∧ x.b = besd p i := by
    rw [eV]
    exact es_snoc h.es (rtP_wf (by show c.ver + 1 ≤ _; omega) (by show v.L.length + 1 ≤ _; omega)) (rtI_ok _) rfl rfl rfl
  have hG' : (ptV d v c l).G = [] := by rw [eV]
  have hlen : (ptV d v c l).L.length = v.L.length + 1 := by rw [eV]; simp
  have hn' : 2 ≤ (ptD d v c l.length).n := by rw [ptD_n]; exact h.n
  have at0 : 0 < c.ver → 1 ≤ c.mark ∧ (ptV d v c l).L[c.mark - 1]? = some ⟨⟨0, 0, 0⟩, besd (rtP c) (rtI c), now⟩ := by
    intro h0
    obtain ⟨a1, a2⟩ := h.at_ h0
    have := h.mark h0
    refine ⟨a1, ?_⟩
    rw [eV]
    show (v.L ++ [_])[c.mark - 1]? = _
    rw [List.getElem?_append_left (by omega)]
    exact a2
  have hEE : ptE d v c l.length = if caE d ≠ 0 then caE d else caE (syS (pwD d v (rtI (nxt v c)) (rtP (nxt v c)) l.length)) := by unfold ptE; rw [hE]
  have hDD : ptD d v c l.length = if caE d ≠ 0 then pwD d v (rtI (nxt v c)) (rtP (nxt v c)) l.length else beS (syS (pwD d v (rtI (nxt v c)) (rtP (nxt v c)) l.length)) := by unfold ptD; rw [hE]
  by_cases ho : caE d ≠ 0
  · -- it was off
    have eE : ptE d v c l.length = 40 := by
      rw [hEE, if_pos ho]
      rcases caE_is d with e | e
      · exact absurd e ho
      · exact e
    have eC : ptC d v c l.length = c := by unfold ptC; rw [eE, if_neg (by decide)]
    have eD : ptD d v c l.length = d := by rw [hDD, if_pos ho, hD, if_pos (caE_off ho)]
    refine .inr ⟨eE, ⟨hn', hG', es', by rw [eC, hlen]; have := h.ver; omega, by rw [eC]; exact at0, ?_⟩, eC⟩
    rw [eC, eD]
    exact h.dv
  have ho : caE d = 0 := Classical.byContradiction ho
  have hno := caE_on ho
  rw [if_neg hno] at hD
  rw [if_neg (fun e => e ho)] at hEE hDD
  rw [hD] at hEE hDD
  generalize hd1 : (d.put ((c.ver + 1) % 2) (le8 (v.L.length + 1))).dec = d1 at *
  have hW1 : d1.W = d.W ++ [((c.ver + 1) % 2, pad (le8 (v.L.length + 1)))] := by rw [← hd1]; rfl
  have hK1 : d1.K = d.K := by rw [← hd1]; rfl
  have hne : (c.ver + 1) % 2 ≠ c.ver % 2 := by omega
  have old : laid = false → 0 < c.ver → d1.K (c.ver % 2) = pad (le8 c.mark) ∧ ∀ x ∈ d1.W, x.1 ≠ c.ver % 2 := by
    intro hl' h0
    obtain ⟨k1, k2⟩ := h.dv hl' h0
    refine ⟨by rw [hK1]; exact k1, fun x hx => ?_⟩
    rw [hW1] at hx
    rcases List.mem_append.1 hx with e | e
    · exact k2 x e
    · rw [List.mem_singleton] at e
      subst e
      exact hne
  by_cases ho1 : caE d1 ≠ 0
  · have eE : ptE d v c l.length = 40 := by
      rw [hEE, syS_off ho1]
      rcases caE_is d1 with e | e
      · exact absurd e ho1
      · exact e
    have eC : ptC d v c l.length = c := by unfold ptC; rw [eE, if_neg (by decide)]
    have eD : ptD d v c l.length = d1 := by rw [hDD, syS_off ho1, beS_off ho1]
    refine .inr ⟨eE, ⟨hn', hG', es', by rw [eC, hlen]; have := h.ver; omega, by rw [eC]; exact at0, ?_⟩, eC⟩
    rw [eC, eD]
    exact old
  have ho1 : caE d1 = 0 := Classical.byContradiction ho1
  have hno1 := caE_on ho1
  have eS : syS d1 = d1.sync.dec := by unfold syS; rw [if_neg hno1]
  have hKs : (syS d1).K = app d1.W d1.K := by rw [eS]; rfl
  have hWs : (syS d1).W = [] := by rw [eS]; rfl
  by_cases ho2 : caE (syS d1) ≠ 0
  · have eE : ptE d v c l.length = 40 := by
      rw [hEE]
      rcases caE_is (syS d1) with e | e
      · exact absurd e ho2
      · exact e
    have eC : ptC d v c l.length = c := by unfold ptC; rw [eE, if_neg (by decide)]
    have eD : ptD d v c l.length = syS d1 := by rw [hDD, beS_off ho2]
    refine .inr ⟨eE, ⟨hn', hG', es', by rw [eC, hlen]; have := h.ver; omega, by rw [eC]; exact at0, ?_⟩, eC⟩
    rw [eC, eD]
    intro hl' h0
    obtain ⟨k1, k2⟩ := old hl' h0
    rw [hKs, hWs]
    exact ⟨by rw [app_out _ _ _ k2]; exact k1, fun x hx => by cases hx⟩
  have ho2 : caE (syS d1) = 0 := Classical.byContradiction ho2
  have eE : ptE d v c l.length = 0 := by rw [hEE]; exact ho2
  have eC : ptC d v c l.length = nxt v c := by unfold ptC; rw [if_pos eE]
  have hno2 := caE_on ho2
  have eD : ptD d v c l.length = (syS d1).dec := by rw [hDD, beS, if_neg hno2]
  refine .inl ⟨eE, ⟨hn', hG', es', by rw [eC, hlen]; show c.ver + 1 ≤ _; have := h.ver; omega, ?_, ?_⟩, by rw [eC]; rfl⟩
  · rw [eC]
    intro _
    refine ⟨by show 1 ≤ v.L.length + 1; omega, ?_⟩
    rw [eV]
    show (v.L ++ [_])[v.L.length + 1 - 1]? = _
    rw [Nat.add_sub_cancel, List.getElem?_append_right (Nat.le_refl _), Nat.sub_self]
    rfl
  · rw [eC, eD]
    intro _ _
    show (syS d1).K ((c.ver + 1) % 2) = pad (le8 (v.L.length + 1)) ∧ ∀ x ∈ (syS d1).W, _
    rw [hKs, hWs, hW1, app_snoc, upd_same]
    exact ⟨rfl, fun x hx => by cases hx⟩
/-- What a Put makes of a device, as long as nothing is wrong with the call. -/
theorem pt_parts (hn : 2 ≤ d.n) (hG : v.G = []) {l : List UInt8} (hl : l.length ≤ 65536) :
    pwE d v (rtI (nxt v c)) (rtP (nxt v c)) l.length = caE d ∧ pwD d v (rtI (nxt v c)) (rtP (nxt v c)) l.length = (if d.lim = some 0 then d else (d.put ((c.ver + 1) % 2) (le8 (v.L.length + 1))).dec) ∧ ptV d v c l = ⟨v.L ++ [⟨⟨0, 0, 0⟩, besd (rtP (nxt v c)) (rtI (nxt v c)), l⟩], []⟩ := by
  have hi0 : ¬ (rtI (nxt v c) < 0 ∨ (d.n : Int) ≤ rtI (nxt v c)) := by unfold rtI; omega
  obtain ⟨s1, s2⟩ := se_ok (v := v) (k := (rtP (nxt v c)).k) (n := l.length) zk_r hl hG
  have s3 := seS_ok (v := v) (k := (rtP (nxt v c)).k) (b := besd (rtP (nxt v c)) (rtI (nxt v c))) (l := l) zk_r hl hG
  have e8 : (le8 (v.L.length + 1)).length = 8 := le_len 8 _
  have hb8 : ¬ bad d (rtI (nxt v c)) 8 := by unfold bad; omega
  refine ⟨?_, ?_, ?_⟩
  · unfold pwE
    rw [if_neg hi0, if_neg (fun e => e s1)]
    unfold wrE
    rw [if_neg hb8]
  · unfold pwD
    rw [if_neg hi0, if_neg (fun e => e s1), s2]
    unfold wrS
    rw [e8]
    by_cases ho : d.lim = some 0
    · rw [if_pos (.inr ho), if_pos ho]
    · rw [if_neg (by rintro (e | e); exact hb8 e; exact ho e), if_neg ho]
      rfl
  · unfold ptV pwV
    rw [if_neg hi0]
    exact s3
/-- A Put on a device without a limit. -/
theorem pt_none (hn : 2 ≤ d.n) (hG : v.G = []) {l : List UInt8} (hl : l.length ≤ 65536) (ho : d.lim = none) :
    ptE d v c l.length = 0 ∧ ptD d v c l.length = ⟨d.n, upd (app d.W d.K) ((c.ver + 1) % 2) (pad (le8 (v.L.length + 1))), [], none⟩ ∧ ptC d v c l.length = nxt v c := by
  obtain ⟨p1, p2, -⟩ := pt_parts (c := c) hn hG hl
  have h0 : ¬ d.lim = some 0 := by rw [ho]; simp
  have c0 : caE d = 0 := by unfold caE; rw [if_neg h0]
  rw [if_neg h0] at p2
  obtain ⟨dn, dK, dW, dl⟩ := d
  dsimp only at ho h0 ⊢
  subst ho
  have q2 : ptD ⟨dn, dK, dW, none⟩ v c l.length = ⟨dn, upd (app dW dK) ((c.ver + 1) % 2) (pad (le8 (v.L.length + 1))), [], none⟩ := by
    unfold ptD
    rw [p1, c0, if_neg (by decide), p2]
    unfold St.put St.dec
    unfold syS
    rw [if_neg (by simp)]
    unfold beS
    rw [if_neg (by simp [St.sync, St.dec])]
    unfold St.sync St.dec
    dsimp only
    rw [app_snoc]
    rfl
  have q1 : ptE ⟨dn, dK, dW, none⟩ v c l.length = 0 := by
    unfold ptE
    rw [p1, c0, if_neg (by decide), p2]
    unfold St.put St.dec syS
    rw [if_neg (by simp)]
    unfold caE
    rw [if_neg (by simp [St.sync, St.dec])]
  exact ⟨q1, q2, by unfold ptC; rw [if_pos q1]⟩
/-- A Put on a device that goes off behind one call. -/
theorem pt_one (hn : 2 ≤ d.n) (hG : v.G = []) {l : List UInt8} (hl : l.length ≤ 65536) (ho : d.lim = some 1) : ptE d v c l.length = 40 := by
  obtain ⟨p1, p2, -⟩ := pt_parts (c := c) hn hG hl
  have h0 : ¬ d.lim = some 0 := by rw [ho]; simp
  have c0 : caE d = 0 := by unfold caE; rw [if_neg h0]
  rw [if_neg h0] at p2
  have hl1 : (d.put ((c.ver + 1) % 2) (le8 (v.L.length + 1))).dec.lim = some 0 := by
    unfold St.put St.dec
    dsimp only
    rw [ho]
    rfl
  unfold ptE
  rw [p1, c0, if_neg (by decide), p2]
  unfold syS
  rw [if_pos hl1]
  unfold caE
  rw [if_pos hl1]
/-- What a page's Write makes, as long as nothing is wrong with the call. -/
theorem pw_parts {p : Pg} {i : Nat} (hin : i < d.n) (hr : p.k.right) (hG : v.G = []) {l : List UInt8} (hl : l.length ≤ 65536) :
    pwE d v (i : Int) p l.length = caE d ∧ pwD d v (i : Int) p l.length = (if d.lim = some 0 then d else (d.put i (le8 (v.L.length + 1))).dec) ∧ pwV d v (i : Int) p l = ⟨v.L ++ [⟨p.k, besd p i, l⟩], []⟩ := by
  have hi0 : ¬ ((i : Int) < 0 ∨ (d.n : Int) ≤ (i : Int)) := by omega
  obtain ⟨s1, s2⟩ := se_ok (v := v) (k := p.k) (n := l.length) hr hl hG
  have s3 := seS_ok (v := v) (k := p.k) (b := besd p (i : Int)) (l := l) hr hl hG
  have e8 : (le8 (v.L.length + 1)).length = 8 := le_len 8 _
  have hb8 : ¬ bad d (i : Int) 8 := by unfold bad; omega
  refine ⟨?_, ?_, ?_⟩
  · unfold pwE
    rw [if_neg hi0, if_neg (fun e => e s1)]
    unfold wrE
    rw [if_neg hb8]
  · unfold pwD
    rw [if_neg hi0, if_neg (fun e => e s1), s2]
    unfold wrS
    rw [e8]
    by_cases ho : d.lim = some 0
    · rw [if_pos (.inr ho), if_pos ho]
    · rw [if_neg (by rintro (e | e); exact hb8 e; exact ho e), if_neg ho]
      rfl
  · unfold pwV
    rw [if_neg hi0]
    exact s3
/-- A page that is written elsewhere. -/
theorem Rt.pw (h : Rt d v c now laid) {p : Pg} (hp : p.wf) (hr : p.k.right) (hid : p.id = ((v.L.length + 1 : Nat) : Int)) {i : Nat} (hi : 2 ≤ i) (hin : i < d.n) (hi4 : i ≤ 4096) {l : List UInt8} (hl : l.length ≤ 65536) :
    Rt (pwD d v (i : Int) p l.length) (pwV d v (i : Int) p l) c now laid := by
  obtain ⟨_, e2, e3⟩ := pw_parts hin hr h.G hl
  have hlen : (pwV d v (i : Int) p l).L.length = v.L.length + 1 := by rw [e3]; simp
  refine ⟨by rw [pwD_n]; exact h.n, by rw [e3], by rw [e3]; exact es_snoc h.es hp (show i64ok (i : Int) from ⟨by omega, by omega⟩) hid rfl rfl, by rw [hlen]; have := h.ver; omega, fun h0 => ?_, fun hl' h0 => ?_⟩
  · obtain ⟨a1, a2⟩ := h.at_ h0
    have := h.mark h0
    refine ⟨a1, ?_⟩
    rw [e3]
    show (v.L ++ [_])[c.mark - 1]? = _
    rw [List.getElem?_append_left (by omega)]
    exact a2
  · obtain ⟨k1, k2⟩ := h.dv hl' h0
    rw [e2]
    split
    · exact ⟨k1, k2⟩
    · refine ⟨k1, fun x hx => ?_⟩
      rcases List.mem_append.1 (show x ∈ d.W ++ [_] from hx) with e | e
      · exact k2 x e
      · rw [List.mem_singleton] at e
        subst e
        show i ≠ _
        omega
/-- Behind a Put that was OK. -/
theorem pt_ok (hn : 2 ≤ d.n) (hG : v.G = []) {l : List UInt8} (hl : l.length ≤ 65536) (h0 : ptE d v c l.length = 0) :
    (ptD d v c l.length).K = upd (app d.W d.K) ((c.ver + 1) % 2) (pad (le8 (v.L.length + 1))) ∧ (ptD d v c l.length).W = [] ∧ ptC d v c l.length = nxt v c := by
  obtain ⟨p1, p2, -⟩ := pt_parts (c := c) hn hG hl
  have hC : ptC d v c l.length = nxt v c := by unfold ptC; rw [if_pos h0]
  unfold ptE at h0
  rw [p1] at h0
  by_cases ho : caE d ≠ 0
  · rw [if_pos ho] at h0; exact absurd h0 ho
  rw [if_neg ho] at h0
  have ho' : caE d = 0 := Classical.byContradiction ho
  have hno := caE_on ho'
  rw [if_neg hno] at p2
  rw [p2] at h0
  have hD : ptD d v c l.length = beS (syS (d.put ((c.ver + 1) % 2) (le8 (v.L.length + 1))).dec) := by unfold ptD; rw [p1, if_neg ho, p2]
  have hno1 : ¬ (d.put ((c.ver + 1) % 2) (le8 (v.L.length + 1))).dec.lim = some 0 := by
    intro e
    rw [syS, if_pos e, caE, if_pos e] at h0
    cases h0
  have hno2 := caE_on h0
  rw [hD, beS, if_neg hno2, syS, if_neg hno1]
  refine ⟨?_, rfl, hC⟩
  show app (d.W ++ [_]) d.K = _
  rw [app_snoc]
end
end Go.Proofs.YtolaojkcofbkhaaGreat
