/- What store.Commit returns and leaves. Nothing is assumed. -/
import Derived.Test.YtdkbpjkoiegflaaGreatStPl
namespace Go.Proofs.YtdkbpjkoiegflaaGreat
open Go.RowKit

theorem ChOn.mono {U U' : Nat → Prop} {w : World} {A : Option Addr} {n : Nat} {l : List Hc} (h : ChOn U w A n l) (hU : ∀ b, U b → b < w.heap.size → U' b) : ChOn U' w A n l :=
  ⟨h.len, fun j hj => by
    obtain ⟨b, off, h1, h2, h3, h4, h5⟩ := h.el j hj
    refine ⟨b, off, h1, hU b h2 h3, h3, h4, ⟨h5.b, fun hn q hq => ?_, h5.k, h5.nm, h5.n⟩⟩
    obtain ⟨b', off', e, _, h7, _⟩ := h5.b.2 hn
    have e2 : b' = q := by rw [e] at hq; simpa using hq
    subst e2
    exact hU _ (h5.u hn _ hq) h7⟩
theorem plan_dead (G : List Ky) (ver : Nat) : ∀ (l : List Ch) (s p : Pl), plan G ver l s = some p → p.dead = (s.dead || l.any fun x => !x.drop && decide (x.k ∈ G))
  | [], s, p, h => by
    injection h with h
    subst h
    simp
  | x :: l, s, p, h => by
    rw [plan] at h
    cases h1 : pl1 G ver s x with
    | none => rw [h1] at h; cases h
    | some s1 =>
      rw [h1] at h
      have h2 := plan_dead G ver l s1 p h
      rw [h2, List.any_cons, ← Bool.or_assoc]
      congr 1
      unfold pl1 at h1
      by_cases hd : x.drop = true
      · rw [if_pos hd] at h1
        injection h1 with h1
        subst h1
        simp [hd]
      · rw [if_neg hd] at h1
        cases hf : s.fr with
        | nil => rw [hf] at h1; cases h1
        | cons f r =>
          rw [hf] at h1
          injection h1 with h1
          subst h1
          have : x.drop = false := by simpa using hd
          simp [this]
theorem ws_is {nx : List Bb} (hr : nx.Pairwise risen) {ws : List (Bb × List UInt8)} {l : List Hc} (hs : ws.map (fun w => (w.1.nm, w.2)) = ((l.map Hc.ch).filter fun x => !x.drop).map fun x => (x.nm, x.body)) (hn : ∀ b t, (b, t) ∈ ws → b ∈ nx) : ws = lyW nx l := by
  have h1 : (ws.map (fun w => (w.1.nm, w.2))).map (fun z => (getB nx z.1, z.2)) = ws := by
    rw [List.map_map]
    have h2 : ∀ w ∈ ws, ((fun z : List UInt8 × List UInt8 => (getB nx z.1, z.2)) ∘ fun w : Bb × List UInt8 => (w.1.nm, w.2)) w = w := by
      rintro ⟨b, t⟩ hb
      have hf := fnd_mem hr (hn b t hb)
      show (getB nx b.nm, t) = (b, t)
      unfold getB
      rw [hf]
      rfl
    rw [List.map_congr_left h2, List.map_id']
  rw [← h1, hs]
  unfold lyW
  rw [List.filter_map, List.map_map, List.map_map]
  rfl
/-- A commit that comes as far as the pages. -/
theorem cm_lay {s : Sr} {l : List Ch} {p : Pl} (h1 : s.dn = false) (h2 : ckE s.L l = 0) (h3 : planS s l = some p) (h4 : p.nx.length ≤ 1000 ∧ (dirB p.nx).length ≤ 65536) (h5 : p.dead = false) :
    cmS s l = ((lyR s.d s.v s.c p.ws (dirB p.nx)).1, ⟨(lyR s.d s.v s.c p.ws (dirB p.nx)).2.1, (lyR s.d s.v s.c p.ws (dirB p.nx)).2.2.1, (lyR s.d s.v s.c p.ws (dirB p.nx)).2.2.2, if (lyR s.d s.v s.c p.ws (dirB p.nx)).1 = 0 then p.nx else s.L, decide ((lyR s.d s.v s.c p.ws (dirB p.nx)).1 ≠ 0)⟩) := by
  unfold cmS
  rw [if_neg (by rw [h1]; simp), if_neg (by rw [h2]; simp), h3]
  dsimp only
  rw [if_neg (by omega), if_neg (by rw [h5]; simp)]
  unfold lyR
  by_cases hw : (wrs p.ws s.d s.v).1 ≠ 0
  · simp only [if_pos hw, if_neg hw]
    rw [decide_eq_true hw]
  · simp only [if_neg hw]
    by_cases hp : ptE (wrs p.ws s.d s.v).2.1 (wrs p.ws s.d s.v).2.2 s.c (dirB p.nx).length ≠ 0
    · simp only [if_pos hp, if_neg hp]
      rw [decide_eq_true hp]
    · simp only [if_neg hp]
      have hp' : ptE (wrs p.ws s.d s.v).2.1 (wrs p.ws s.d s.v).2.2 s.c (dirB p.nx).length = 0 := by omega
      rw [hp']
      simp
theorem ck_ok {L : List Bb} {l : List Hc} (h : ckE L (l.map Hc.ch) = 0) : (∀ x ∈ l, nmOk x.nm ∧ x.k.right ∧ x.body.length ≤ 65536) ∧ ((l.map Hc.ch).map Ch.nm).Nodup := by
  unfold ckE at h
  by_cases h1 : (∃ x ∈ l.map Hc.ch, chBad x) ∨ ¬ ((l.map Hc.ch).map Ch.nm).Nodup
  · rw [if_pos h1] at h; cases h
  · rw [not_or] at h1
    refine ⟨fun x hx => ?_, Classical.not_not.1 h1.2⟩
    have h2 : ¬ chBad x.ch := fun e => h1.1 ⟨x.ch, List.mem_map_of_mem hx, e⟩
    unfold chBad at h2
    simp only [not_or, Classical.not_not] at h2
    exact ⟨h2.1, h2.2.1, by have := h2.2.2; show x.ch.body.length ≤ _; omega⟩
theorem rgt_inj {L : List Bb} (h : Rgt L) : ∀ x ∈ L, ∀ y ∈ L, x.b = y.b → x = y := by
  intro x hx y hy e
  obtain ⟨i, hi, rfl⟩ := List.mem_iff_getElem.1 hx
  obtain ⟨j, hj, rfl⟩ := List.mem_iff_getElem.1 hy
  rcases Nat.lt_trichotomy i j with h1 | h1 | h1
  · exact absurd e (List.pairwise_iff_getElem.1 h.2.1 i j hi hj h1).1
  · subst h1; rfl
  · exact absurd e.symm (List.pairwise_iff_getElem.1 h.2.1 j i hj hi h1).1
theorem ts_left {w w' : World} {F : Nat → Prop} {P : Ob} {wz : World} {X : Nat → Prop} (hs : w.heap.size ≤ w'.heap.size) (hO : On wz P w' X) (hX : ∀ x, x < w.heap.size → ¬ F x → X x) (hB : Below wz.heap.size wz w) (hB' : ∀ x, x < w.heap.size → ¬ F x → w'.heap[x]? = w.heap[x]?) : P.Left w w' F := by
  obtain ⟨F', h1, h2, h3, h4⟩ := hO
  refine ⟨F', h1, ⟨h3.os.trans hB.os.symm, h3.tape.trans hB.tape.symm, h3.output.trans hB.output.symm, hs, fun k hk hF => hB' k hk hF⟩, fun j hj => ?_⟩
  rcases Nat.lt_or_ge j w.heap.size with e | e
  · by_cases hF : F j
    · exact .inl hF
    · exact absurd hj (h4 j (hX j e hF)).1
  · exact .inr e
/-- A block of the store written, the rest kept: the store as it is behind it, its other blocks perhaps new ones. -/
theorem so_turn {wz w w' : World} {gd gv gc gs m mb rb k : Nat} {d : St} {v : Va} {c : Ce} {L L' : List Bb} {dn dn' : Bool} {s : Sp} {X Y : Nat → Prop} (hO : On wz (TS gd d gv v gc c gs m L dn) w X) (hg : w.grownBy w' (some gs))
    (hb : Blk w' gs 124 (soCells gd gv gc mb rb dn')) (hm : BMp w' mb L') (hr : Mp w' rb k s) (hq : Rm s m L') (hY : ∀ x, Y x → X x) (hu : ((X mb ∧ X rb ∧ X k) ∧ ∀ x, Y x → x ≠ mb ∧ x ≠ rb ∧ x ≠ k) ∨ ∀ mb' rb' k' s', SoB w gs gd gv gc m L dn mb' rb' k' s' → (mb' = mb ∧ rb' = rb ∧ k' = k)) : On wz (TS gd d gv v gc c gs m L' dn') w' Y := by
  obtain ⟨F, ⟨A, B, h1, h2, h3, h4⟩, h5, h6, h7⟩ := hO
  obtain ⟨mb', rb', k', s', hs, hB⟩ := h2
  have hgs : B gs := (hB gs).2 (.inl rfl)
  have hAg : ∀ j, A j → j ≠ gs := fun j hj e => h3 j hj (e ▸ hgs)
  have hBn : ∀ j, (j = gs ∨ j = mb ∨ j = rb ∨ j = k) → B j ∨ X j := by
    intro j hj
    rcases hu with ⟨⟨a1, a2, a3⟩, _⟩ | hu
    · rcases hj with rfl | rfl | rfl | rfl
      · exact .inl hgs
      · exact .inr a1
      · exact .inr a2
      · exact .inr a3
    · obtain ⟨a1, a2, a3⟩ := hu mb' rb' k' s' hs
      subst a1 a2 a3
      exact .inl ((hB j).2 hj)
  refine ⟨fun j => A j ∨ (j = gs ∨ j = mb ∨ j = rb ∨ j = k), ⟨A, fun j => j = gs ∨ j = mb ∨ j = rb ∨ j = k, (TC.ok gd d gv v gc c).keep w w' A h1 hg.size (fun j hj => hg.block j ((TC.ok gd d gv v gc c).lt w A h1 j hj) (fun e => hAg j hj (by injection e))), ⟨mb, rb, k, s, ⟨hb, hm, hr, hq⟩, fun _ => Iff.rfl⟩, fun j hj hj2 => ?_, fun _ => Iff.rfl⟩, fun j hj => ?_, h6.grown hg h6.size (fun x hx => by injection hx with hx; subst hx; exact h5 _ ((h4 _).2 (.inr hgs))), fun x hx => ?_⟩
  · rcases hBn j hj2 with e | e
    · exact h3 j hj e
    · exact (h7 j e).1 ((h4 j).2 (.inl hj))
  · rcases hj with hj | hj
    · exact h5 j ((h4 j).2 (.inl hj))
    · rcases hBn j hj with e | e
      · exact h5 j ((h4 j).2 (.inr e))
      · exact (h7 j e).2.2
  · obtain ⟨b1, b2, b3⟩ := h7 x (hY x hx)
    refine ⟨?_, Nat.lt_of_lt_of_le b2 hg.size, b3⟩
    rintro (e | e)
    · exact b1 ((h4 x).2 (.inl e))
    · rcases hu with ⟨_, q⟩ | hu
      · obtain ⟨c1, c2, c3⟩ := q x hx
        rcases e with e | e | e | e
        · exact b1 ((h4 x).2 (.inr (e ▸ hgs)))
        · exact c1 e
        · exact c2 e
        · exact c3 e
      · obtain ⟨q1, q2, q3⟩ := hu mb' rb' k' s' hs
        subst q1 q2 q3
        exact b1 ((h4 x).2 (.inr ((hB x).2 e)))
theorem so_same {w : World} {gs gd gv gc m mb rb k mb' rb' k' : Nat} {L : List Bb} {dn : Bool} {s s' : Sp} (h : SoB w gs gd gv gc m L dn mb rb k s) (h' : SoB w gs gd gv gc m L dn mb' rb' k' s') : mb' = mb ∧ rb' = rb ∧ k' = k := by
  have e := h.blk.symm.trans h'.blk
  simp [soCells] at e
  obtain ⟨e1, e2⟩ := e
  subst e1 e2
  have e2 := h.room.blk.symm.trans h'.room.blk
  simp at e2
  exact ⟨rfl, rfl, e2.1.1.symm⟩
set_option maxRecDepth 100000 in
set_option maxHeartbeats 8000000 in
theorem commit_c {w : World} {F : Nat → Prop} {gd gv gc gs n m q : Nat} {d : St} {v : Va} {c : Ce} {L : List Bb} {dn : Bool} {A : Option Addr} {l : List Hc} (h0 : TS gd d gv v gc c gs m L dn w F) (h : ChOn (fun b => ¬ F b) w A n l) (hn : n ≤ 10000)
    (hR : Rgt L) (hwf : ∀ x ∈ L, x.wf) (hlt : ∀ x ∈ L, x.b < (m : Int)) (hm : d.n = m) (hW : d.W.length ≤ 30000) (hvl : v.L.length ≤ 300000) (hv : c.ver ≤ 500000) :
    Calls Tryz.prog 18 #[.pointer (some ⟨gs, 0, none⟩), .slice A n q] w fun e w' => e = .returned (.int .i64 (cmS ⟨d, v, c, L, dn⟩ (l.map Hc.ch)).1) ∧
      (TS gd (cmS ⟨d, v, c, L, dn⟩ (l.map Hc.ch)).2.d gv (cmS ⟨d, v, c, L, dn⟩ (l.map Hc.ch)).2.v gc (cmS ⟨d, v, c, L, dn⟩ (l.map Hc.ch)).2.c gs m (cmS ⟨d, v, c, L, dn⟩ (l.map Hc.ch)).2.L (cmS ⟨d, v, c, L, dn⟩ (l.map Hc.ch)).2.dn).Left w w' F := by
  have HZ : Hid (Below ({ w with heap := #[] } : World).heap.size { w with heap := #[] } w) := hid ⟨rfl, rfl, rfl, Nat.zero_le _, fun k hk => absurd hk (Nat.not_lt_zero k)⟩
  have HGF : Hid (F gs) := hid (by
    obtain ⟨_, B', _, ⟨_, _, _, _, _, hB⟩, _, h4⟩ := h0
    exact (h4 gs).2 (.inr ((hB gs).2 (.inl rfl))))
  have hO0 : On { w with heap := #[] } (TS gd d gv v gc c gs m L dn) w (fun x => x < w.heap.size ∧ ¬ F x) := ⟨F, h0, fun _ _ => Nat.zero_le _, HZ.out, fun x hx => ⟨hx.2, hx.1, Nat.zero_le _⟩⟩
  have HH := hid h0
  have HCH : Hid (ChOn (fun x => x < w.heap.size ∧ ¬ F x) w A n l) := hid (h.mono fun b hb hs => ⟨hs, hb⟩)
  have HN := hid hn
  have HLN : Hid (l.length = n) := hid h.len
  have HR := hid hR
  have HWF := hid hwf
  have HLT := hid hlt
  have HDM := hid hm
  have HW := hid hW
  have HVL := hid hvl
  have HV := hid hv
  have HO := hid hO0
  have HS : Hid (∃ S, S = cmS ⟨d, v, c, L, dn⟩ (l.map Hc.ch)) := hid ⟨_, rfl⟩
  obtain ⟨S, hS⟩ := HS.out
  rw [← hS]
  have HSE := hid hS
  obtain ⟨mb, rb, k, s, hs⟩ := so_at (ts_s gd d gv v gc c) hO0
  have HSO := hid hs
  obtain ⟨y0, y1, y2, y3, y4, y5⟩ := hs.cells
  generalize hwz : ({ w with heap := #[] } : World) = wz at *
  clear hwz h0 h hn hR hwf hlt hm hW hvl hv hO0 HS hS hs
  go_enter Tryz.func18, Tryz.ntmps18
  cases hdn : dn with
  | true =>
    subst hdn
    have HE : Hid (S = (40, ⟨d, v, c, L, true⟩)) := hid (HSE.out.trans (if_pos rfl))
    go_wp2
    go_ret
    rw [HE.out]
    exact ⟨rfl, .same HH.out⟩
  | false =>
  subst hdn
  go_wp2_with fail
  refine (wrong_c HSO.out HCH.out (by have := HN.out; omega)).mono ?_
  rintro e w1 ⟨rfl, hb1⟩
  have HB1 := hid hb1
  clear hb1 y0 y1 y2 y3 y4 y5
  by_cases hE : ckE L (l.map Hc.ch) = 0
  case neg =>
    have HE : Hid (S = (ckE L (l.map Hc.ch), ⟨d, v, c, L, false⟩)) := hid (by
      rw [HSE.out]
      unfold cmS
      rw [if_neg (by simp), if_pos hE])
    have z1 : (ckE L (l.map Hc.ch) == 0) = false := beq_eq_false_iff_ne.2 hE
    have z2 : decide (ckE L (l.map Hc.ch) = 0) = false := decide_eq_false hE
    have z3 : (ckE L (l.map Hc.ch) != 0) = true := by rw [bne, z1]; rfl
    clear hE
    generalize ckE L (l.map Hc.ch) = E at *
    go_wp2
    go_ret
    rw [HE.out]
    exact ⟨rfl, .bel (TS.ok _ _ _ _ _ _ _ _ _ _) HH.out HB1.out⟩
  case pos =>
  rw [hE]
  have HE0 := hid hE
  have HOK := hid (ck_ok hE)
  clear hE
  have HO1 := hid (HO.out.go (TS.ok _ _ _ _ _ _ _ _ _ _) HB1.out)
  have HC1 := hid (HCH.out.bel HB1.out)
  have HXN : Hid (∀ x ∈ l, x.nm.length ≤ 40 ∧ x.n ≤ 65536) := hid (fun x hx => by
    obtain ⟨j, hj, rfl⟩ := List.mem_iff_getElem.1 hx
    obtain ⟨_, _, _, _, _, _, hc⟩ := HCH.out.el j hj
    have h1 : l[j].body.length = l[j].n := hc.b.1
    obtain ⟨a1, _, a3⟩ := HOK.out.1 _ hx
    exact ⟨a1.2, by omega⟩)
  go_wp2_with fail
  refine (plan_c Foc.self (fun _ h => h) HO1.out HC1.out HN.out (rise_of HR.out) (rgt_inj HR.out) (fun x hx => ⟨(HR.out.1 x hx).2.2.2.2.2.2.2.1, HLT.out x hx⟩) (fun x hx => ⟨HWF.out x hx, (HR.out.1 x hx).1.2⟩) HR.out.2.2 HXN.out HOK.out.2 (by have := HVL.out; omega) HV.out).mono ?_
  rintro e w2 (⟨hp, rfl, hb2⟩ | ⟨p, pm, rq, kq, sq, DA, Dn, Dc, hp, rfl, hb2, hpm, hrm, hrm2, hda, hdn, hg1, hg2, hg3⟩)
  · have HE : Hid (S = (60, ⟨d, v, c, L, false⟩)) := hid (by
      rw [HSE.out]
      unfold cmS
      have e : planS ⟨d, v, c, L, false⟩ (l.map Hc.ch) = none := by
        unfold planS
        rw [HDM.out]
        exact hp
      rw [if_neg (by simp), if_neg (fun z => z HE0.out), e])
    have HB2 := hid ((HB1.out.trans (hb2.mono HB1.out.size)).alloc (by have := HB1.out.size; have := hb2.size; omega) (.cells #[.map none, .pointer none, .slice none 0 0] 128))
    clear hp hb2
    go_wp2
    go_ret
    rw [HE.out]
    exact ⟨rfl, .bel (TS.ok _ _ _ _ _ _ _ _ _ _) HH.out HB2.out⟩
  have HB2 := hid (HB1.out.trans (hb2.mono HB1.out.size))
  have HPE : Hid (planS ⟨d, v, c, L, false⟩ (l.map Hc.ch) = some p) := hid (by
    unfold planS
    rw [HDM.out]
    exact hp)
  have HP := hid hp
  have HB3 := hid (HB2.out.alloc HB2.out.size (.cells #[.map (some pm), .pointer (some ⟨rq, 0, none⟩), .slice DA Dn Dc] 128))
  have hb3 : Below w2.heap.size w2 (w2.alloc (.cells #[.map (some pm), .pointer (some ⟨rq, 0, none⟩), .slice DA Dn Dc] 128)) := (Below.refl _ _).alloc (Nat.le_refl _) _
  by_cases hbig : p.nx.length ≤ 1000 ∧ (dirB p.nx).length ≤ 65536
  case neg =>
    have HE : Hid (S = (60, ⟨d, v, c, L, false⟩)) := hid (by
      rw [HSE.out]
      unfold cmS
      rw [if_neg (by simp), if_neg (fun z => z HE0.out), HPE.out]
      dsimp only
      rw [if_pos (by omega)])
    rw [decide_eq_false hbig]
    clear hp hb2 hb3 hpm hrm hrm2 hda hdn hg1 hg2 hg3 hbig
    go_wp2
    go_ret
    rw [HE.out]
    exact ⟨rfl, .bel (TS.ok _ _ _ _ _ _ _ _ _ _) HH.out HB3.out⟩
  case pos =>
  rw [decide_eq_true hbig]
  have HBIG := hid hbig
  have HPM := hid (hpm.bel hb3)
  have HRM := hid (hrm.keep (hb3.block _ hrm.blk.lt) (hb3.block _ hrm.row.lt))
  have HRQ := hid hrm2
  have HDA := hid (World.ownsRow.below hda hb3)
  have HDN := hid hdn
  have HG := hid (And.intro hg1 (And.intro hg2 hg3))
  have HK3 := hid (Blk.new w2 128 #[.map (some pm), .pointer (some ⟨rq, 0, none⟩), .slice DA Dn Dc])
  clear hp hb2 hb3 hpm hrm hrm2 hda hdn hg1 hg2 hg3 hbig
  have HBX := hid HB2.out.size
  go_wp2_with fail
  generalize w2.alloc (.cells #[.map (some pm), .pointer (some ⟨rq, 0, none⟩), .slice DA Dn Dc] 128) = w3 at *
  generalize w2.heap.size = bx at *
  have HO3 := hid (HO.out.go (TS.ok _ _ _ _ _ _ _ _ _ _) HB3.out)
  have HC3 := hid (HCH.out.bel HB3.out)
  refine (keyGone_on Foc.self (fun _ h => h) HO3.out HC3.out (by have := HN.out; omega)).mono ?_
  rintro e w4 ⟨rfl, hb4⟩
  have HDEAD : Hid (p.dead = decide (kgB v l)) := hid (by
    rw [plan_dead _ _ _ _ _ HP.out]
    rw [Bool.eq_iff_iff]
    simp only [Bool.false_or, List.any_eq_true, decide_eq_true_eq]
    constructor
    · rintro ⟨x, hx, h2⟩
      obtain ⟨y, hy, rfl⟩ := List.mem_map.1 hx
      rw [Bool.and_eq_true] at h2
      exact ⟨y, hy, (show y.ch.drop = false by simpa using h2.1), (show y.ch.k ∈ v.G by simpa using h2.2)⟩
    · rintro ⟨y, hy, h2, h3⟩
      refine ⟨y.ch, List.mem_map_of_mem hy, ?_⟩
      rw [Bool.and_eq_true]
      exact ⟨by rw [show y.ch.drop = false from h2]; rfl, decide_eq_true (show y.ch.k ∈ v.G from h3)⟩)
  have HB4 := hid (HB3.out.trans (hb4.mono HB3.out.size))
  by_cases hkg : kgB v l
  · have HE : Hid (S = (50, ⟨d, v, c, L, false⟩)) := hid (by
      rw [HSE.out]
      unfold cmS
      rw [if_neg (by simp), if_neg (fun z => z HE0.out), HPE.out]
      dsimp only
      rw [if_neg (by have := HBIG.out; omega), if_pos (by rw [HDEAD.out]; exact decide_eq_true hkg)])
    rw [decide_eq_true hkg]
    clear hb4 hkg
    go_wp2
    go_ret
    rw [HE.out]
    exact ⟨rfl, .bel (TS.ok _ _ _ _ _ _ _ _ _ _) HH.out HB4.out⟩
  rw [decide_eq_false hkg]
  have HDF : Hid (p.dead = false) := hid (HDEAD.out.trans (decide_eq_false hkg))
  have HK4 := hid (HK3.out.keep (hb4.block _ HK3.out.lt))
  have HPM4 := hid (HPM.out.bel hb4)
  have HRM4 := hid (HRM.out.keep (hb4.block _ HRM.out.blk.lt) (hb4.block _ HRM.out.row.lt))
  have HDA4 := hid (World.ownsRow.below HDA.out hb4)
  clear hb4 hkg HDEAD HK3 HPM HRM HDA HO3 HC3
  have HO4 := hid (HO.out.add (TS.ok _ _ _ _ _ _ _ _ _ _) HB4.out (Y := fun x => w.heap.size ≤ x ∧ x < w4.heap.size) (fun x hx => hx))
  have HC4 : Hid (ChOn (fun b => ((b < w.heap.size ∧ ¬ F b) ∨ (w.heap.size ≤ b ∧ b < w4.heap.size)) ∨ b < wz.heap.size) w4 A n l) := hid ((HCH.out.bel HB4.out).mono fun b hb _ => .inl (.inl hb))
  have HPI := hid (PI.plan (frs_nodup m L) (fun f hf b hb => (frs_mem.1 hf).2 b hb) (l.map Hc.ch) [] ⟨L, v.L.length, frs m L, false, []⟩ _ (PI.init_ (rise_of HR.out) (rgt_inj HR.out)) (by simpa using HOK.out.2) HP.out)
  have HWS : Hid (p.ws = lyW p.nx l) := hid (ws_is HPI.out.rise HPI.out.seq HPI.out.new)
  have HIN : Hid (∀ x ∈ l, x.dr = false → isB p.nx x.nm = true) := hid (fun x hx hd => by
    have h1 : (x.nm, x.body) ∈ p.ws.map (fun w => (w.1.nm, w.2)) := by
      rw [HPI.out.seq]
      exact List.mem_map.2 ⟨x.ch, List.mem_filter.2 ⟨List.mem_map_of_mem hx, by show (!x.dr) = true; rw [hd]; rfl⟩, rfl⟩
    obtain ⟨⟨b, t⟩, h2, h3⟩ := List.mem_map.1 h1
    have h4 := HPI.out.new b t h2
    have h5 : b.nm = x.nm := congrArg Prod.fst h3
    rw [← isB_dec, ← h5]
    exact decide_eq_true (List.mem_map_of_mem h4))
  have HMM : Hid (m ≤ 4096) := hid (by have := HSO.out.room.ok.n2; rw [HSO.out.rm.len] at this; exact this)
  have HNX : Hid (∀ y ∈ p.nx, y.wf ∧ y.p.k = y.k) := hid (fun y hy => ⟨(HPI.out.wf_ (q := 40) (fun x hx => ⟨HWF.out x hx, (HR.out.1 x hx).1.2⟩) (fun x hx => by
      obtain ⟨z, hz, rfl⟩ := List.mem_map.1 hx
      obtain ⟨j, hj, rfl⟩ := List.mem_iff_getElem.1 hz
      obtain ⟨_, _, _, _, _, _, hc⟩ := HCH.out.el j hj
      obtain ⟨a1, _, a3⟩ := HOK.out.1 _ hz
      exact ⟨hc.k, a1.2, by show l[j].body.length ≤ _; omega⟩) (by omega) (fun f hf => by have := (frs_mem.1 hf).1; have := HMM.out; omega) (by rw [List.nil_append, List.length_map, HLN.out]; have := HVL.out; have := HN.out; omega) (by have := HV.out; omega) y hy).1, by
    rcases HPI.out.mem y hy with ⟨h1, _⟩ | ⟨t, h1⟩
    · exact (HR.out.1 y h1).2.2.1
    · obtain ⟨j, hj⟩ := List.mem_iff_getElem?.1 h1
      obtain ⟨z, f, _, _, rfl, _⟩ := HPI.out.ws j y t hj
      rfl⟩)
  obtain ⟨x0, x1, x2⟩ := plB_cells HK4.out
  have hlay := lay_on Foc.self (fun _ h => h) HO4.out HC4.out HN.out pm rq DA Dn Dc (dirB p.nx) (q := q) HPM4.out (.inr ⟨Nat.le_trans HB1.out.size HG.out.1, HPM4.out.lt⟩) ((Bts.own HDA4.out).wide (Nat.zero_le _) (Nat.le_refl _)) (fun b hb => .inr ⟨by
      have h2 : (Value.slice DA Dn Dc).ownBlock = DA.map (·.block) := by cases DA <;> rfl
      have := (HDA4.out.lt b (by rw [h2]; exact hb)).1
      have := HB1.out.size
      omega, own_lt HDA4.out b hb⟩) HNX.out HIN.out HW.out HVL.out HV.out
  have HCM := hid (cm_lay (s := ⟨d, v, c, L, false⟩) (l := l.map Hc.ch) rfl HE0.out HPE.out HBIG.out HDF.out)
  rw [HWS.out] at HCM
  have HSE2 := hid (HSE.out.trans HCM.out)
  clear HSE HCM
  go_wp2_with fail
  refine hlay.mono ?_
  rintro e w5 ⟨rfl, hO5, hst5⟩
  have HO5 := hid hO5
  have HST5 := hid hst5
  clear hlay hO5 hst5 x0 x1 x2
  generalize lyR d v c (lyW p.nx l) (dirB p.nx) = R at *
  obtain ⟨R1, R2, R3, R4⟩ := R
  dsimp only at HSE2 HO5 ⊢
  have HK5 := hid (HK4.out.keep (HST5.out.2 bx (.inr ⟨HBX.out, HK4.out.lt⟩)))
  have HPM5 := hid (HPM4.out.keep (HST5.out.2 pm (.inr ⟨Nat.le_trans HB1.out.size HG.out.1, HPM4.out.lt⟩)))
  have HRM5 := hid (HRM4.out.keep (HST5.out.2 rq (.inr ⟨Nat.le_trans HB1.out.size HG.out.2.1, HRM4.out.blk.lt⟩)) (HST5.out.2 kq (.inr ⟨Nat.le_trans HB1.out.size HG.out.2.2, HRM4.out.row.lt⟩)))
  have HKP : Hid (∀ x, x < w.heap.size → ¬ F x → w5.heap[x]? = w.heap[x]?) := hid (fun x hx hF => (HST5.out.2 x (.inl ⟨hx, hF⟩)).trans (HB4.out.block x hx))
  have HSZ : Hid (w.heap.size ≤ w5.heap.size) := hid (Nat.le_trans HB4.out.size HST5.out.1)
  have HX5 : Hid (((w.heap.size ≤ pm ∧ pm < w4.heap.size) ∧ (w.heap.size ≤ rq ∧ rq < w4.heap.size)) ∧ (w.heap.size ≤ kq ∧ kq < w4.heap.size)) := hid ⟨⟨⟨Nat.le_trans HB1.out.size HG.out.1, HPM4.out.lt⟩, Nat.le_trans HB1.out.size HG.out.2.1, HRM4.out.blk.lt⟩, Nat.le_trans HB1.out.size HG.out.2.2, HRM4.out.row.lt⟩
  clear HST5 HK4 HPM4 HRM4 HDA4 HO4 HC4
  by_cases hR1 : R1 = 0
  case neg =>
    have HE : Hid (S = (R1, ⟨R2, R3, R4, L, true⟩)) := hid (by rw [HSE2.out, if_neg hR1, decide_eq_true hR1])
    have z1 : (R1 == 0) = false := beq_eq_false_iff_ne.2 hR1
    have z2 : decide (R1 = 0) = false := decide_eq_false hR1
    have z3 : (R1 != 0) = true := by rw [bne, z1]; rfl
    obtain ⟨mb5, rb5, k5, s5, hs5⟩ := so_at (ts_s gd R2 gv R3 gc R4) HO5.out
    have HS5 := hid hs5
    obtain ⟨y0, y1, y2, y3, y4, y5⟩ := hs5.cells
    have hfz : w5.frozen? ⟨gs, 5, none⟩ = false := hs5.blk.frozen 5
    clear hR1 hs5 HSE2 HK5 HPM5 HRM5
    go_wp2
    go_ret
    rw [HE.out]
    have hg := grown_setCell w5 gs 5 (.bool true)
    have hk0 : ∀ x, x < w5.heap.size → x ≠ gs → (w5.setCell ⟨gs, 5, none⟩ (.bool true)).heap[x]? = w5.heap[x]? := fun x hx hn => hg.block x hx (fun e => hn (by injection e))
    exact ⟨rfl, ts_left (Nat.le_trans HSZ.out hg.size) (so_turn (Y := fun x => x < w.heap.size ∧ ¬ F x) HO5.out hg (HS5.out.blk.store 5 (.bool true)) (HS5.out.map.keep (hk0 _ HS5.out.lt.2.1 HS5.out.ne.1)) (HS5.out.room.keep (hk0 _ HS5.out.lt.2.2.1 HS5.out.ne.2.1) (hk0 _ HS5.out.lt.2.2.2 HS5.out.ne.2.2.1)) HS5.out.rm (fun x hx => .inl hx) (.inr fun _ _ _ _ h' => so_same HS5.out h')) (fun x a b => ⟨a, b⟩) HZ.out (fun x hx hF => (hk0 x (Nat.lt_of_lt_of_le hx HSZ.out) (fun e => hF (e ▸ HGF.out))).trans (HKP.out x hx hF))⟩
  case pos =>
  subst hR1
  have HE : Hid (S = (0, ⟨R2, R3, R4, p.nx, false⟩)) := hid (by rw [HSE2.out, if_pos rfl]; rfl)
  clear HSE2
  go_wp2_with fail
  have HO6 := hid (HO5.out.go (TS.ok _ _ _ _ _ _ _ _ _ _) (wr' := w5.drew) ((Below.refl _ _).drew))
  have HK6 : Hid (Blk w5.drew bx 128 #[.map (some pm), .pointer (some ⟨rq, 0, none⟩), .slice DA Dn Dc]) := hid HK5.out
  have HPM6 : Hid (BMp w5.drew pm p.nx) := hid (HPM5.out.keep rfl)
  have HRM6 : Hid (Mp w5.drew rq kq sq) := hid (HRM5.out.keep rfl rfl)
  have HKP6 : Hid (∀ x, x < w.heap.size → ¬ F x → w5.drew.heap[x]? = w.heap[x]?) := hid HKP.out
  have HSZ6 : Hid (w.heap.size ≤ w5.drew.heap.size) := hid HSZ.out
  obtain ⟨mb5, rb5, k5, s5, hs5⟩ := so_at (ts_s gd R2 gv R3 gc R4) HO6.out
  have HS6 := hid hs5
  clear hs5 HO5 HK5 HPM5 HRM5 HKP HSZ
  refine wp_region_held_drew (S := fun wx => Blk wx bx 128 #[.map (some pm), .pointer (some ⟨rq, 0, none⟩), .slice DA Dn Dc]) (by kernel_rfl) HK6.out (fun HT => ?_)
  generalize w5.drew = w6 at *
  refine wpAnyH_take (i := 0) (oi := ?oia0) (v := ?va0) ?hia0 (by kernel_rfl) (by kernel_rfl) (by kernel_rfl) ?hQa0 ?hya0 HT ?resta0
  case hia0 => simp only [List.getElem?_toArray, List.getElem?_cons_zero]; exact rfl
  case hQa0 => exact fun _ _ _ h => h
  case hya0 =>
    refine Or.inl ⟨by rfl, ?_⟩
    intro wS hSw
    obtain ⟨z0, z1, z2⟩ := plB_cells hSw
    go_simp
    try with_reducible rfl
  try simp only [Act.put, List.setIfInBounds_toArray, List.set_cons_zero, List.set_cons_succ]
  refine wpAnyH_take (i := 1) (oi := ?oia1) (v := ?va1) ?hia1 (by kernel_rfl) (by kernel_rfl) (by kernel_rfl) ?hQa1 ?hya1 HT ?resta1
  case hia1 => simp only [List.getElem?_toArray, List.getElem?_cons_succ, List.getElem?_cons_zero]; exact rfl
  case hQa1 => exact fun _ _ _ h => h
  case hya1 =>
    refine Or.inl ⟨by rfl, ?_⟩
    intro wS hSw
    obtain ⟨z0, z1, z2⟩ := plB_cells hSw
    go_simp
    try with_reducible rfl
  try simp only [Act.put, List.setIfInBounds_toArray, List.set_cons_zero, List.set_cons_succ]
  refine wpAnyH_take (i := 2) (oi := ?oia2) (v := ?va2) ?hia2 (by kernel_rfl) (by kernel_rfl) (by kernel_rfl) ?hQa2 ?hya2 HT ?resta2
  case hia2 => simp only [List.getElem?_toArray, List.getElem?_cons_succ, List.getElem?_cons_zero]; exact rfl
  case hQa2 => exact fun _ _ _ h => h
  case hya2 =>
    refine Or.inl ⟨by rfl, ?_⟩
    intro wS hSw
    obtain ⟨z0, z1, z2⟩ := plB_cells hSw
    go_simp
    try with_reducible rfl
  try simp only [Act.put, List.setIfInBounds_toArray, List.set_cons_zero, List.set_cons_succ]
  refine wpAnyH_take (i := 3) (oi := ?oia3) (v := ?va3) ?hia3 (by kernel_rfl) (by kernel_rfl) (by kernel_rfl) ?hQa3 ?hya3 HT ?resta3
  case hia3 => simp only [List.getElem?_toArray, List.getElem?_cons_succ, List.getElem?_cons_zero]; exact rfl
  case hQa3 => exact fun _ _ _ h => h
  case hya3 =>
    refine Or.inl ⟨by rfl, ?_⟩
    intro wS hSw
    obtain ⟨z0, z1, z2⟩ := plB_cells hSw
    go_simp
    try with_reducible rfl
  try simp only [Act.put, List.setIfInBounds_toArray, List.set_cons_zero, List.set_cons_succ]
  refine wpAnyH_take (i := 4) (oi := ?oia4) (v := ?va4) ?hia4 (by kernel_rfl) (by kernel_rfl) (by kernel_rfl) ?hQa4 ?hya4 HT ?resta4
  case hia4 => simp only [List.getElem?_toArray, List.getElem?_cons_succ, List.getElem?_cons_zero]; exact rfl
  case hQa4 => exact fun _ _ _ h => h
  case hya4 =>
    refine Or.inl ⟨by rfl, ?_⟩
    intro wS hSw
    obtain ⟨z0, z1, z2⟩ := plB_cells hSw
    go_simp
    try with_reducible rfl
  try simp only [Act.put, List.setIfInBounds_toArray, List.set_cons_zero, List.set_cons_succ]
  refine wpAnyH_take (i := 5) (oi := ?oia5) (v := ?va5) ?hia5 (by kernel_rfl) (by kernel_rfl) (by kernel_rfl) ?hQa5 ?hya5 HT ?resta5
  case hia5 => simp only [List.getElem?_toArray, List.getElem?_cons_succ, List.getElem?_cons_zero]; exact rfl
  case hQa5 => exact fun _ _ _ h => h
  case hya5 =>
    refine Or.inl ⟨by rfl, ?_⟩
    intro wS hSw
    obtain ⟨z0, z1, z2⟩ := plB_cells hSw
    go_simp
    try with_reducible rfl
  try simp only [Act.put, List.setIfInBounds_toArray, List.set_cons_zero, List.set_cons_succ]
  refine wpAnyH_take (i := 6) (oi := ?oia6) (v := ?va6) ?hia6 (by kernel_rfl) (by kernel_rfl) (by kernel_rfl) ?hQa6 ?hya6 HT ?resta6
  case hia6 => simp only [List.getElem?_toArray, List.getElem?_cons_succ, List.getElem?_cons_zero]; exact rfl
  case hQa6 => exact fun _ _ _ h => h
  case hya6 =>
    refine Or.inl ⟨by rfl, ?_⟩
    intro wS hSw
    obtain ⟨z0, z1, z2⟩ := plB_cells hSw
    go_simp
    try with_reducible rfl
  try simp only [Act.put, List.setIfInBounds_toArray, List.set_cons_zero, List.set_cons_succ]
  refine wpAnyH_take (i := 7) (oi := ?oia7) (v := ?va7) ?hia7 (by kernel_rfl) (by kernel_rfl) (by kernel_rfl) ?hQa7 ?hya7 HT ?resta7
  case hia7 => simp only [List.getElem?_toArray, List.getElem?_cons_succ, List.getElem?_cons_zero]; exact rfl
  case hQa7 => exact fun _ _ _ h => h
  case hya7 =>
    refine Or.inl ⟨by rfl, ?_⟩
    intro wS hSw
    obtain ⟨z0, z1, z2⟩ := plB_cells hSw
    go_simp
    try with_reducible rfl
  try simp only [Act.put, List.setIfInBounds_toArray, List.set_cons_zero, List.set_cons_succ]
  obtain ⟨y0, y1, y2, y3, y4, y5⟩ := HS6.out.cells
  have hfz : w6.frozen? ⟨gs, 3, none⟩ = false := HS6.out.blk.frozen 3
  have HNG : Hid (bx ≠ gs) := hid (Blk.ne HK6.out HS6.out.blk (by decide))
  refine wpAnyH_ready (rs := [8]) (by kernel_rfl) (by simp) ?_
  refine AllReadyH.cons (o := ?oa8) ?hoa8 (fun K hK => ?stepa8) AllReadyH.nil
  case hoa8 => simp only [List.getElem?_toArray, List.getElem?_cons_succ, List.getElem?_cons_zero]; exact rfl
  go_simp
  refine hK.out _ _ (HK6.out.keep ((grown_setCell w6 gs 3 (.map (some pm))).block _ HK6.out.lt (fun e => HNG.out (by injection e)))) (fun HT => ?_)
  clear hK K
  try simp only [Act.put]
  refine wpAnyH_take (i := 9) (oi := ?oia9) (v := ?va9) ?hia9 (by kernel_rfl) (by kernel_rfl) (by kernel_rfl) ?hQa9 ?hya9 HT ?resta9
  case hia9 => simp only [List.getElem?_toArray, List.getElem?_cons_succ, List.getElem?_cons_zero]; exact rfl
  case hQa9 => exact fun _ _ _ h => h
  case hya9 =>
    refine Or.inl ⟨by rfl, ?_⟩
    intro wS hSw
    obtain ⟨z0, z1, z2⟩ := plB_cells hSw
    go_simp
    try with_reducible rfl
  try simp only [Act.put, List.setIfInBounds_toArray, List.set_cons_zero, List.set_cons_succ]
  refine wpAnyH_take (i := 10) (oi := ?oia10) (v := ?va10) ?hia10 (by kernel_rfl) (by kernel_rfl) (by kernel_rfl) ?hQa10 ?hya10 HT ?resta10
  case hia10 => simp only [List.getElem?_toArray, List.getElem?_cons_succ, List.getElem?_cons_zero]; exact rfl
  case hQa10 => exact fun _ _ _ h => h
  case hya10 =>
    refine Or.inl ⟨by rfl, ?_⟩
    intro wS hSw
    obtain ⟨z0, z1, z2⟩ := plB_cells hSw
    go_simp
    try with_reducible rfl
  try simp only [Act.put, List.setIfInBounds_toArray, List.set_cons_zero, List.set_cons_succ]
  have hb7 := HS6.out.blk.store 3 (.map (some pm))
  have u4 : (w6.setCell ⟨gs, 3, none⟩ (.map (some pm))).cell? ⟨gs, 4, none⟩ = some (.pointer (some ⟨rb5, 0, none⟩)) := (hb7.cell 4).trans rfl
  have hfy : (w6.setCell ⟨gs, 3, none⟩ (.map (some pm))).frozen? ⟨gs, 4, none⟩ = false := hb7.frozen 4
  clear hb7
  refine wpAnyH_ready (rs := [11]) (by kernel_rfl) (by simp) ?_
  refine AllReadyH.cons (o := ?oa11) ?hoa11 (fun K hK => ?stepa11) AllReadyH.nil
  case hoa11 => simp only [List.getElem?_toArray, List.getElem?_cons_succ, List.getElem?_cons_zero]; exact rfl
  go_simp
  refine hK.out _ _ (Blk.keep HT ((grown_setCell _ gs 4 (.pointer (some ⟨rq, 0, none⟩))).block _ (Blk.lt HT) (fun e => HNG.out (by injection e)))) (fun HT2 => ?_)
  clear hK K
  try simp only [Act.put]
  refine wpAnyH_done (by kernel_rfl) ?_ _
  clear HT HT2 y0 y1 y2 y3 y4 y5 hfz u4 hfy
  have hg : w6.grownBy ((w6.setCell ⟨gs, 3, none⟩ (.map (some pm))).setCell ⟨gs, 4, none⟩ (.pointer (some ⟨rq, 0, none⟩))) (some gs) := (grown_setCell w6 gs 3 (.map (some pm))).trans (grown_setCell _ gs 4 (.pointer (some ⟨rq, 0, none⟩)))
  have HG7 := hid hg
  clear hg
  go_wp2
  go_ret
  rw [HE.out]
  have hk0 : ∀ x, x < w6.heap.size → x ≠ gs → ((w6.setCell ⟨gs, 3, none⟩ (.map (some pm))).setCell ⟨gs, 4, none⟩ (.pointer (some ⟨rq, 0, none⟩))).heap[x]? = w6.heap[x]? := fun x hx hn => HG7.out.block x hx (fun e => hn (by injection e))
  have hgs : gs < w.heap.size := (TS.ok _ _ _ _ _ _ _ _ _ _).lt w F HH.out gs HGF.out
  exact ⟨rfl, ts_left (Nat.le_trans HSZ6.out HG7.out.size) (so_turn (Y := fun x => x < w.heap.size ∧ ¬ F x) HO6.out HG7.out ((HS6.out.blk.store 3 (.map (some pm))).store 4 (.pointer (some ⟨rq, 0, none⟩))) (HPM6.out.keep (hk0 _ HPM6.out.lt (by have := HX5.out; omega))) (HRM6.out.keep (hk0 _ HRM6.out.blk.lt (by have := HX5.out; omega)) (hk0 _ HRM6.out.row.lt (by have := HX5.out; omega))) HRQ.out (fun x hx => .inl hx) (.inl ⟨⟨.inr HX5.out.1.1, .inr HX5.out.1.2, .inr HX5.out.2⟩, fun x hx => by have := HX5.out; have := hx.1; omega⟩)) (fun x a b => ⟨a, b⟩) HZ.out (fun x hx hF => (hk0 x (Nat.lt_of_lt_of_le hx HSZ6.out) (fun e => hF (e ▸ HGF.out))).trans (HKP6.out x hx hF))⟩
theorem commit_on {C : Ob → Ob} {w wr : World} {X : Nat → Prop} {gd gv gc gs n m q : Nat} {d : St} {v : Va} {c : Ce} {L : List Bb} {dn : Bool} {A : Option Addr} {l : List Hc} (hC : Foc C) (hO : On w (C (TS gd d gv v gc c gs m L dn)) wr X) (h : ChOn (fun b => X b ∨ b < w.heap.size) wr A n l) (hn : n ≤ 10000)
    (hR : Rgt L) (hwf : ∀ x ∈ L, x.wf) (hlt : ∀ x ∈ L, x.b < (m : Int)) (hm : d.n = m) (hW : d.W.length ≤ 30000) (hvl : v.L.length ≤ 300000) (hv : c.ver ≤ 500000) :
    Calls Tryz.prog 18 #[.pointer (some ⟨gs, 0, none⟩), .slice A n q] wr fun e w' => e = .returned (.int .i64 (cmS ⟨d, v, c, L, dn⟩ (l.map Hc.ch)).1) ∧
      On w (C (TS gd (cmS ⟨d, v, c, L, dn⟩ (l.map Hc.ch)).2.d gv (cmS ⟨d, v, c, L, dn⟩ (l.map Hc.ch)).2.v gc (cmS ⟨d, v, c, L, dn⟩ (l.map Hc.ch)).2.c gs m (cmS ⟨d, v, c, L, dn⟩ (l.map Hc.ch)).2.L (cmS ⟨d, v, c, L, dn⟩ (l.map Hc.ch)).2.dn)) w' X ∧ Stay X wr w' := by
  obtain ⟨F, h1, hge, hx, hf⟩ := hO.at_ hC
  refine (commit_c h1 (h.mono fun b hb _ => hb.elim (hx b) fun hlt e => by have := hge b e; omega) hn hR hwf hlt hm hW hvl hv).mono ?_
  rintro e w' ⟨rfl, hl⟩
  obtain ⟨k1, k2, k3⟩ := hf w' _ hl
  exact ⟨rfl, k1, k2, k3⟩
end Go.Proofs.YtdkbpjkoiegflaaGreat
