import Derived.Test.YtolaojkcofbkhaaGreatRsC
import Derived.Test.YtolaojkcofbkhaaGreatStAp
import Derived.Test.YtolaojkcofbkhaaGreatStSim
namespace Go.Proofs.YtolaojkcofbkhaaGreat
set_option maxRecDepth 100000
set_option maxHeartbeats 4000000
open Go.RowKit
def VB (v : Va) : Prop := ∀ x ∈ v.L, x.p.length ≤ 65536
theorem VB.new : VB Va.new := fun x hx => by cases hx
theorem VB.seS {s : Va} (h : VB s) (k : Ky) (b p : List UInt8) : VB (seS s k b p) := by
 unfold Go.Proofs.YtolaojkcofbkhaaGreat.seS
 split
 · exact h
 · rename_i e
   split
   · exact h
   · intro x hx
     rcases List.mem_append.1 hx with hx | hx
     · exact h x hx
     · rw [List.mem_singleton] at hx
       subst hx
       exact Nat.le_of_not_lt fun e' => e (.inr e')
theorem VB.pwV {s : Va} (h : VB s) (d : St) (i : Int) (p : Pg) (l : List UInt8) : VB (pwV d s i p l) := by
 unfold Go.Proofs.YtolaojkcofbkhaaGreat.pwV
 split
 · exact h
 · exact h.seS _ _ _
theorem VB.ptV {s : Va} (h : VB s) (d : St) (c : Ce) (l : List UInt8) : VB (ptV d s c l) := h.pwV _ _ _ _
theorem VB.wrs : ∀ (ws : List (Bb × List UInt8)) (d : St) {v : Va}, VB v → VB (wrs ws d v).2.2
 | [], d, v, h => h
 | (b, x) :: r, d, v, h => by
  rw [Go.Proofs.YtolaojkcofbkhaaGreat.wrs]
  split
  · exact h.pwV _ _ _ _
  · exact VB.wrs r _ (h.pwV _ _ _ _)
theorem VB.gone {s : Va} (h : VB s) (k : Ky) : VB ⟨s.L, s.G ++ [k]⟩ := h
theorem VB.opB {s : Va} (h : VB s) (k : Ky) (b : List UInt8) (hd : Nat) : (opB s k b hd).length ≤ 65536 := by
 unfold Go.Proofs.YtolaojkcofbkhaaGreat.opB
 split
 · exact Nat.zero_le _
 · unfold opX
   cases hb : behind s.L hd with
   | none => exact Nat.zero_le _
   | some x =>
    have hm : x ∈ s.L := by
     unfold behind at hb
     split at hb
     · cases hb
     · exact List.mem_of_getElem? hb
    simp only [Option.bind_some]
    split
    · exact h x hm
    · exact Nat.zero_le _
theorem VB.gtB {s : Va} (h : VB s) (d : St) (c : Ce) : (gtB d s c).length ≤ 65536 := by
 unfold Go.Proofs.YtolaojkcofbkhaaGreat.gtB
 split
 · exact Nat.zero_le _
 · unfold prB
   split
   · exact Nat.zero_le _
   · split
     · exact Nat.zero_le _
     · exact h.opB _ _ _
structure CG (d : St) (t : Va) (c : Ce) (m : Nat) (S : Sr) : Prop where
 rg : Rgt S.L
 wf : ∀ x ∈ S.L, x.wf
 bl : ∀ x ∈ S.L, x.b < (d.n : Int)
 n : S.d.n = d.n
 W : S.d.W.length ≤ d.W.length + m + 1
 V : S.v.L.length ≤ t.L.length + m + 1
 G : S.v.G = t.G
 ver : S.c.ver ≤ c.ver + 1
 mark : S.c.mark ≤ c.mark ∨ S.c.mark ≤ t.L.length + m + 1
 vb : VB S.v
theorem cm_good {d : St} {t : Va} {c : Ce} {L : List Bb} {dn : Bool} {l : List Hc} (hR : Rgt L) (hw : ∀ x ∈ L, x.wf) (hb : ∀ x ∈ L, x.b < (d.n : Int)) (hn4 : d.n ≤ 4096) (hk : ∀ x ∈ l, x.k.wf) (hl : l.length ≤ 1000) (hid : t.L.length ≤ 1000000) (hver : c.ver ≤ 1000000) (hvb : VB t) :
 CG d t c l.length (cmS ⟨d, t, c, L, dn⟩ (l.map Hc.ch)).2 := by
 have h0 : ∀ q, CG d t c l.length ⟨d, t, c, L, q⟩ := fun q => ⟨hR, hw, hb, rfl, Nat.le_trans (Nat.le_add_right _ _) (Nat.le_add_right _ _), Nat.le_trans (Nat.le_add_right _ _) (Nat.le_add_right _ _), rfl, Nat.le_add_right _ _, .inl (nl _), hvb⟩
 unfold cmS
 split
 · exact h0 _
 split
 · exact h0 _
 rename_i hck
 have hck0 : ckE L (l.map Hc.ch) = 0 := Classical.byContradiction hck
 obtain ⟨hg, hnd⟩ := ck_ok hck0
 split
 · exact h0 _
 rename_i p hp
 have hp' : plan t.G c.ver (l.map Hc.ch) ⟨L, t.L.length, frs d.n L, false, []⟩ = some p := hp
 have hP := PI.plan (frs_nodup d.n L) (fun f hf b hb => (frs_mem.1 hf).2 b hb) (l.map Hc.ch) [] _ p (PI.init_ (G := t.G) (ver := c.ver) (id0 := t.L.length) (F := frs d.n L) (rise_of hR) (rgt_inj hR)) (by rw [List.nil_append]; exact hnd) hp'
 rw [List.nil_append] at hP
 have hwl : p.ws.length ≤ l.length := by have := hP.wl; rwa [List.length_map] at this
 obtain ⟨z1, z2, z3, z4⟩ := wrs_size p.ws d t
 have z5 := VB.wrs p.ws d hvb
 split
 · exact h0 _
 rename_i hsz
 split
 · exact h0 _
 dsimp only
 generalize wrs p.ws d t = R at *
 have h1 : ∀ q, CG d t c l.length ⟨R.2.1, R.2.2, c, L, q⟩ := fun q => ⟨hR, hw, hb, z2, by show R.2.1.W.length ≤ _; omega, by show R.2.2.L.length ≤ _; omega, z4, Nat.le_add_right _ _, .inl (nl _), z5⟩
 split
 · exact h1 _
 have y1 := ptD_W R.2.1 R.2.2 c (dirB p.nx).length
 have y2 := ptD_n R.2.1 R.2.2 c (dirB p.nx).length
 have y3 := ptV_L R.2.1 R.2.2 c (dirB p.nx)
 have y4 := ptC_ver R.2.1 R.2.2 c (dirB p.nx).length
 have y5 := z5.ptV R.2.1 c (dirB p.nx)
 have h2 : ∀ L' q, Rgt L' → (∀ x ∈ L', x.wf) → (∀ x ∈ L', x.b < (d.n : Int)) → CG d t c l.length ⟨ptD R.2.1 R.2.2 c (dirB p.nx).length, ptV R.2.1 R.2.2 c (dirB p.nx), ptC R.2.1 R.2.2 c (dirB p.nx).length, L', q⟩ := fun L' q a1 a2 a3 => ⟨a1, a2, a3, y2.trans z2, by show (ptD R.2.1 R.2.2 c (dirB p.nx).length).W.length ≤ _; omega, by show (ptV R.2.1 R.2.2 c (dirB p.nx)).L.length ≤ _; omega, y3.2.trans z4, y4.1, (by
  rcases y4.2 with h | h
  · exact .inl h
  · refine .inr ?_
    show (ptC R.2.1 R.2.2 c (dirB p.nx).length).mark ≤ _
    omega), y5⟩
 split
 · exact h2 _ _ hR hw hb
 · have hnew : ∀ (j : Nat) (b : Bb) (t' : List UInt8), p.ws[j]? = some (b, t') → bbOk b ∧ b.b < (d.n : Int) := by
    intro j b t' hj
    obtain ⟨x, f, e1, e2, rfl, rfl, e4⟩ := hP.ws j b t' hj
    obtain ⟨y, hy, rfl⟩ := List.mem_map.1 e1
    obtain ⟨g1, g2, g3⟩ := hg y hy
    obtain ⟨⟨f1, f2⟩, f3⟩ := frs_mem.1 e4
    refine ⟨⟨g1, g2, rfl, ?_, ?_, ?_, ?_, ?_, ?_⟩, ?_⟩
    · show 0 ≤ ((t.L.length + j + 1 : Nat) : Int); omega
    · show 0 ≤ ((c.ver + 1 : Nat) : Int); omega
    · show 0 ≤ (y.body.length : Int); omega
    · show (y.body.length : Int) ≤ 65536; omega
    · show 2 ≤ (f : Int); omega
    · show (f : Int) ≤ 4095; omega
    · show (f : Int) < (d.n : Int); omega
   have hwf := hP.wf_ (q := 100000) (fun x hx => ⟨hw x hx, Nat.le_trans (hR.1 x hx).1.2 (by decide)⟩) (fun x hx => by
    obtain ⟨y, hy, rfl⟩ := List.mem_map.1 hx
    obtain ⟨g1, g2, g3⟩ := hg y hy
    exact ⟨hk y hy, Nat.le_trans g1.2 (by decide), Nat.le_trans g3 (by decide)⟩) (nl _) (fun f hf => by obtain ⟨⟨f1, f2⟩, f3⟩ := frs_mem.1 hf; omega) (by rw [List.length_map]; omega) hver
   refine h2 _ _ ⟨fun x hx => ?_, ?_, ?_⟩ (fun x hx => (hwf x hx).1) (fun x hx => ?_)
   · rcases hP.mem x hx with ⟨e, _⟩ | ⟨t', e⟩
     · exact hR.1 x e
     · obtain ⟨j, hj⟩ := List.mem_iff_getElem?.1 e
       exact (hnew j x t' hj).1
   · refine hP.rise.imp_of_mem fun {a b} ha hb hr => ⟨fun e => ?_, hr⟩
     have := hP.inj a ha b hb e
     subst this
     exact less_ne hr rfl
   · omega
   · rcases hP.mem x hx with ⟨e, _⟩ | ⟨t', e⟩
     · exact hb x e
     · obtain ⟨j, hj⟩ := List.mem_iff_getElem?.1 e
       exact (hnew j x t' hj).2
structure SG (n : Nat) (d : St) (v t : Va) (c : Ce) (L : List Bb) (j : Nat) : Prop where
 sz : d.n = n
 W : d.W.length ≤ 30 * j
 V : t.L.length ≤ 30 * j
 G : t.G.length ≤ j
 ver : c.ver ≤ j
 mark : c.mark ≤ 30 * j
 sim : Sim v t
 vb : VB t
 rg : Rgt L
 wf : ∀ x ∈ L, x.wf
 bl : ∀ x ∈ L, x.b < (n : Int)
section
variable {n : Nat} {d : St} {v t : Va} {c : Ce} {L : List Bb} {j : Nat}
theorem SG.vl (h : SG n d v t c L j) : v.L.length ≤ 30 * j := by rw [h.sim.len]; exact h.V
theorem SG.up (h : SG n d v t c L j) : SG n d v t c L (j + 1) := ⟨h.sz, by have := h.W; omega, by have := h.V; omega, by have := h.G; omega, by have := h.ver; omega, by have := h.mark; omega, h.sim, h.vb, h.rg, h.wf, h.bl⟩
theorem SG.pk (h : SG n d v t c L j) : ∀ x ∈ L, x.wf ∧ x.p.k = x.k := fun x hx => ⟨h.wf x hx, (h.rg.1 x hx).2.2.1⟩
theorem SG.nm (h : SG n d v t c L j) : ∀ x ∈ L, x.nm.length ≤ maxLen := fun x hx => Nat.le_trans (h.rg.1 x hx).1.2 (by decide)
theorem SG.dev (h : SG n d v t c L j) {d' : St} (hn : d'.n = d.n) (hW : d'.W.length ≤ d.W.length + 1) : SG n d' v t c L (j + 1) := ⟨hn.trans h.sz, by have := h.W; omega, by have := h.V; omega, by have := h.G; omega, by have := h.ver; omega, by have := h.mark; omega, h.sim, h.vb, h.rg, h.wf, h.bl⟩
theorem SG.gone (h : SG n d v t c L j) (k : Ky) : SG n d (v.destroy k) ⟨t.L, t.G ++ [k]⟩ c L (j + 1) := ⟨h.sz, by have := h.W; omega, by have := h.V; dsimp only; omega, by have := h.G; simp; omega, by have := h.ver; omega, by have := h.mark; omega, h.sim.destroy k, h.vb.gone k, h.rg, h.wf, h.bl⟩
theorem SG.opened (h : SG n d v t c L j) (he : soE d v c = 0) : SG n d v t c (soL d v c) j := by
 obtain ⟨h1, h2⟩ := soL_rgt d v c
 refine ⟨h.sz, h.W, h.V, h.G, h.ver, h.mark, h.sim, h.vb, h1, h2, fun x hx => ?_⟩
 unfold soE at he
 unfold soL at hx
 split at he
 · cases he
 by_cases e : gtE d v c = 90
 · rw [if_pos e] at hx
   cases hx
 rw [if_neg e] at he hx
 split at he
 · rename_i e'
   exact absurd he e'
 cases hp : parB (gtB d v c) with
 | none => rw [hp] at he; cases he
 | some l =>
  rw [hp] at he hx
  dsimp only [Option.getD_some] at he hx
  split at he
  · rename_i hb
    rw [← h.sz]
    exact hb x hx
  · cases he
theorem SG.commit (h : SG n d v t c L j) {l : List Hc} (hk : ∀ x ∈ l, x.k.wf) (hl : l.length ≤ 20) (hn : n ≤ 4096) (hj : j ≤ 30) (dn : Bool) :
 SG n (cmS ⟨d, v, c, L, dn⟩ (l.map Hc.ch)).2.d (cmS ⟨d, v, c, L, dn⟩ (l.map Hc.ch)).2.v (cmS ⟨d, t, c, L, dn⟩ (l.map Hc.ch)).2.v (cmS ⟨d, v, c, L, dn⟩ (l.map Hc.ch)).2.c (cmS ⟨d, v, c, L, dn⟩ (l.map Hc.ch)).2.L (j + 1) := by
 obtain ⟨_, s2, s3, s4, s5, _⟩ := h.sim.cmS d c L dn (l.map Hc.ch)
 have hg := cm_good (c := c) (dn := dn) h.rg h.wf (fun x hx => by rw [h.sz]; exact h.bl x hx) (by rw [h.sz]; exact hn) hk (Nat.le_trans hl (by decide)) (by have := h.V; omega) (show c.ver ≤ 1000000 by have := h.ver; omega) h.vb
 generalize cmS ⟨d, v, c, L, dn⟩ (l.map Hc.ch) = S at *
 generalize cmS ⟨d, t, c, L, dn⟩ (l.map Hc.ch) = T at *
 rw [s2, s4, s5]
 refine ⟨hg.n.trans h.sz, ?_, ?_, ?_, ?_, ?_, s3, hg.vb, hg.rg, hg.wf, fun x hx => ?_⟩
 · have := hg.W; have := h.W; omega
 · have := hg.V; have := h.V; omega
 · rw [hg.G]; have := h.G; omega
 · have := hg.ver; have := h.ver; omega
 · have h1 := hg.mark; have := h.mark; have := h.V; omega
 · rw [← h.sz]; exact hg.bl x hx
end
theorem rcommit_on {C : Ob → Ob} {w wr : World} {X : Nat → Prop} {ge gw gz gs n q : Nat} {d : St} {t : Va} {c : Ce} {L : List Bb} {dn : Bool} {A : Option Addr} {l : List Hc} (hC : Foc C) (hO : On w (C (RS ge d gw t gz c gs L dn)) wr X) (h : ChOn (fun b => X b ∨ b < w.heap.size) wr A n l) (hnq : n ≤ q) (hn : n ≤ 10000)
 (hR : Rgt L) (hwf : ∀ x ∈ L, x.wf) (hn2 : 2 ≤ d.n) (hW : d.W.length ≤ 30000) (htl : t.L.length ≤ 300000) (htg : t.G.length ≤ 400000) (hv : c.ver ≤ 400000) :
 Calls Tryz.prog 19 #[.pointer (some ⟨gs, 0, none⟩), .slice A n q] wr fun e w' => e = .returned (.int .i64 (cmS ⟨d, t, c, L, dn⟩ (l.map Hc.ch)).1) ∧
  On w (C (RS ge (cmS ⟨d, t, c, L, dn⟩ (l.map Hc.ch)).2.d gw (cmS ⟨d, t, c, L, dn⟩ (l.map Hc.ch)).2.v gz (cmS ⟨d, t, c, L, dn⟩ (l.map Hc.ch)).2.c gs (cmS ⟨d, t, c, L, dn⟩ (l.map Hc.ch)).2.L (cmS ⟨d, t, c, L, dn⟩ (l.map Hc.ch)).2.dn)) w' X ∧ Stay X wr w' := by
 obtain ⟨F, h1, hge, hx, hf⟩ := hO.at_ hC
 refine (rcommit_c h1 (h.mono fun b hb _ => hb.elim (hx b) fun hlt e => by have := hge b e; omega) hnq hn hR hwf hn2 hW htl htg hv).mono ?_
 rintro e w' ⟨rfl, hl⟩
 obtain ⟨k1, k2, k3⟩ := hf w' _ hl
 exact ⟨rfl, k1, k2, k3⟩
def SRow (w : World) (base : Nat) (A : Option Addr) (n c : Nat) (l : List (List UInt8)) : Prop := w.ownsRow base 9 1 (.slice A n c) n (l.map fun s => .string (str s)) ∧ l.length = n ∧ ∀ s ∈ l, s.length ≤ maxLen
section
variable {w w' : World} {base n c : Nat} {A : Option Addr} {l : List (List UInt8)}
theorem SRow.bel (h : SRow w base A n c l) (hb : Below w.heap.size w w') : SRow w' base A n c l := ⟨World.ownsRow.below h.1 hb, h.2⟩
theorem SRow.more {A' : Option Addr} {c' : Nat} {nm : List UInt8} (h : SRow w base A n c l) (hr : w'.ownsRow base 9 1 (.slice A' (n + 1) c') (n + 1) ((l.map fun s => .string (str s)) ++ [.string (str nm)])) (hn : nm.length ≤ maxLen) : SRow w' base A' (n + 1) c' (l ++ [nm]) := by
 refine ⟨by rw [List.map_append]; exact hr, by rw [List.length_append, h.2.1]; rfl, fun s hs => ?_⟩
 rcases List.mem_append.1 hs with hs | hs
 · exact h.2.2 s hs
 · rw [List.mem_singleton] at hs
   subst hs
   exact hn
theorem SRow.two (w : World) : SRow (w.alloc (.cells #[.string { data := #[] }, .string { data := #[97] }] 9)) w.heap.size (some ⟨w.heap.size, 0, none⟩) 2 2 [[], [97]] :=
 ⟨⟨rfl, .inr ⟨w.heap.size, 2, #[.string { data := #[] }, .string { data := #[97] }], rfl, nl _, Blk.new w 9 _, nl _, by unfold maxLen; omega, by simp, rfl⟩⟩, rfl, fun s hs => by
  simp only [List.mem_cons, List.not_mem_nil, or_false] at hs
  rcases hs with rfl | rfl <;> (unfold maxLen; simp)⟩
theorem SRow.elem (h : SRow w base A n c l) {j : Nat} (hj : j < l.length) : ∃ b, A = some ⟨b, 0, none⟩ ∧ b < w.heap.size ∧ w.cell? ⟨b, j, none⟩ = some (.string (str l[j])) := by
 obtain ⟨h1, h2, _⟩ := h
 rcases h1.2 with ⟨hv, _⟩ | ⟨g, cap, cur, hv, _, hg, hnc, _, hcs, ht⟩
 · injection hv with _ hv2
   omega
 · injection hv with hA _ hcap
   subst hA hcap
   refine ⟨g, rfl, Blk.lt hg, ?_⟩
   rw [Blk.cell hg]
   have hu : (l.map fun s => Value.string (str s))[j]? = some (.string (str l[j])) := by rw [List.getElem?_map, List.getElem?_eq_getElem hj]; rfl
   rw [← ht, List.getElem?_take, if_pos (by omega)] at hu
   simpa using hu
end
theorem nm_meas {k m j : Nat} (h : k = m - j) (hj : j < m) : m - (j + 1) < k := by omega
theorem nm_w {k m : Nat} (h : m ≤ 9223372036854775807) (hk : k < m) : wrap64 ((k : Int) + 1) = ((k + 1 : Nat) : Int) := by unfold wrap64; omega
theorem names_c (w : World) (hi : Nat) (A : Option Addr) (n k : Nat) (h : OpsT w hi A n) (hhi : hi ≤ w.heap.size) (hn : n ≤ 9223372036854775807) :
 Calls Tryz.prog 34 #[.slice A n k] w fun e w' => ∃ A' m c' l, e = .returned (.slice A' m c') ∧ SRow w' w.heap.size A' m c' l ∧ m ≤ 30 ∧ Below w.heap.size w w' := by
 have HOPS := hid h
 have HHI := hid hhi
 have HN := hid hn
 have HS0 := hid (SRow.two w)
 have HB0 : Hid (Below w.heap.size w (w.alloc (.cells #[.string { data := #[] }, .string { data := #[97] }] 9))) := hid ((Below.refl _ _).alloc (nl _) _)
 clear h hhi hn
 go_enter Tryz.func34, Tryz.ntmps34
 go_wp2_with fail
 go_loopg [3, 11] n (fun kk ov iv w2 => ∃ (j : Nat) (A1 : Option Addr) (n1 c1 : Nat) (out : List (List UInt8)), ov = .slice A1 n1 c1 ∧ iv = .int .i64 (j : Int) ∧ Hid (kk = n - j) ∧ Hid (j ≤ n) ∧ Hid (SRow w2 w.heap.size A1 n1 c1 out) ∧ Hid (n1 ≤ 30) ∧ Hid (Below w.heap.size w w2))
 case atStart => exact ⟨0, _, 2, 2, _, rfl, rfl, hid (by omega), hid (Nat.zero_le _), HS0, hid (by decide), HB0⟩
 case round =>
 obtain ⟨j, A1, n1, c1, out, rfl, rfl, hgk, hj, hO, hn1, hB⟩ := hrel
 clear HS0 HB0
 rename World => w2
 rcases Nat.lt_or_ge j n with hlt | hge
 · have HJN := hid hlt
   have j1 : (0 : Int) ≤ (j : Int) := by omega
   have j2 : (j : Int) < (n : Int) := by omega
   have j3 : decide ((j : Int) < (n : Int)) = true := by simpa using hlt
   have j4 : decide (j < n) = true := by simpa using hlt
   have wj : wrap64 ((j : Int) + 1) = ((j + 1 : Nat) : Int) := nm_w HN.out hlt
   obtain ⟨b, off, o, rfl, hbl, hR0, hO0⟩ := HOPS.out j hlt
   have hr0 := rangeAt_keep hR0 (hB.out.block b (Nat.lt_of_lt_of_le hbl HHI.out))
   obtain ⟨c0', c1', c2, c3, c4, c5, c6, c7, c8⟩ := range9 hr0
   have hb3 : Below w2.heap.size w2 (w2.alloc (.cells #[.int .i64 (o).kind, .int .i64 (o).i, .int .i64 (o).fr, .slice (o).LA (o).Ln (o).Lc, .slice (o).BA (o).Bn (o).Bc, .slice (o).KA (o).Kn (o).Kc, .int .i64 (o).k.t, .int .i64 (o).k.c, .int .i64 (o).k.e] 56)) := (Below.refl _ _).alloc (nl _) _
   obtain ⟨x0, x1, x2, x3, x4, x5, x6, x7, x8⟩ := opB_cells (o := o) (Blk.new w2 56 #[.int .i64 (o).kind, .int .i64 (o).i, .int .i64 (o).fr, .slice (o).LA (o).Ln (o).Lc, .slice (o).BA (o).Bn (o).Bc, .slice (o).KA (o).Kn (o).Kc, .int .i64 (o).k.t, .int .i64 (o).k.c, .int .i64 (o).k.e])
   have HB3 := hid (hB.out.trans (hb3.mono hB.out.size))
   have HR3 : Hid (SRow (w2.alloc (.cells #[.int .i64 (o).kind, .int .i64 (o).i, .int .i64 (o).fr, .slice (o).LA (o).Ln (o).Lc, .slice (o).BA (o).Bn (o).Bc, .slice (o).KA (o).Kn (o).Kc, .int .i64 (o).k.t, .int .i64 (o).k.c, .int .i64 (o).k.e] 56)) w.heap.size A1 n1 c1 out) := hid (hO.out.bel hb3)
   have HHC := hid hO0.l
   have HLM := hid hO0.lm
   clear hlt hbl hR0 hr0 hb3 hO hB hO0
   go_wp2_with fail
   clear c0' c1' c2 c3 c4 c5 c6 c7 c8 x0 x1 x2 x3 x4 x5 x6 x7 x8
   generalize w2.heap.size = bo at *
   generalize w2.alloc (.cells #[.int .i64 (o).kind, .int .i64 (o).i, .int .i64 (o).fr, .slice (o).LA (o).Ln (o).Lc, .slice (o).BA (o).Bn (o).Bc, .slice (o).KA (o).Kn (o).Kc, .int .i64 (o).k.t, .int .i64 (o).k.c, .int .i64 (o).k.e] 56) = wb at *
   go_loopg [3, 18] o.Ln (fun kk ov iv w3 => ∃ (i : Nat) (A2 : Option Addr) (n2 c2 : Nat) (out2 : List (List UInt8)), ov = .slice A2 n2 c2 ∧ iv = .int .i64 (i : Int) ∧ Hid (kk = o.Ln - i) ∧ Hid (i ≤ o.Ln) ∧ Hid (SRow w3 w.heap.size A2 n2 c2 out2) ∧ Hid (n2 ≤ 30) ∧ Hid (Below w.heap.size w w3))
   case atStart => exact ⟨0, _, _, _, _, rfl, rfl, hid (by omega), hid (Nat.zero_le _), HR3, hn1, HB3⟩
   case round =>
   obtain ⟨i, A2, n2, c2, out2, rfl, rfl, hgk2, hi2, hO, hn2, hB⟩ := hrel
   clear HR3 HB3 hn1
   rename World => w3
   rcases Nat.lt_or_ge i o.Ln with hlt2 | hge2
   · have HIN := hid hlt2
     have hil : i < o.l.length := by rw [HHC.out.len]; exact hlt2
     have i1 : (0 : Int) ≤ (i : Int) := by omega
     have i2 : (i : Int) < (o.Ln : Int) := by omega
     have i3 : decide ((i : Int) < (o.Ln : Int)) = true := by simpa using hlt2
     have i4 : decide (i < o.Ln) = true := by simpa using hlt2
     have wi : wrap64 ((i : Int) + 1) = ((i + 1 : Nat) : Int) := nm_w HLM.out hlt2
     obtain ⟨lb, loff, hA, -, hbl2, hr2, hx2⟩ := (HHC.out.bel hB.out).at_ hil
     have HNM := hid hx2.nm
     generalize o.l[i] = x at *
     obtain ⟨c0, c1', c2', c3, c4, c5⟩ := range6 hr2
     have hb4 : Below w3.heap.size w3 (w3.alloc (.cells #[.string (str (x).nm), .int .i64 (x).k.t, .int .i64 (x).k.c, .int .i64 (x).k.e, .slice (x).A (x).n (x).c, .bool (x).dr] 94)) := (Below.refl _ _).alloc (nl _) _
     have HB4 := hid (hB.out.trans (hb4.mono hB.out.size))
     have HR4 : Hid (SRow (w3.alloc (.cells #[.string (str (x).nm), .int .i64 (x).k.t, .int .i64 (x).k.c, .int .i64 (x).k.e, .slice (x).A (x).n (x).c, .bool (x).dr] 94)) w.heap.size A2 n2 c2 out2) := hid (hO.out.bel hb4)
     obtain ⟨y0, y1, y2, y3, y4, y5⟩ := hcB_cells (x := x) (Blk.new w3 94 #[.string (str (x).nm), .int .i64 (x).k.t, .int .i64 (x).k.c, .int .i64 (x).k.e, .slice (x).A (x).n (x).c, .bool (x).dr])
     have HA := hid hA
     rw [hA]
     clear hlt2 hil hbl2 hr2 hb4 hO hB hx2 hA
     rcases Nat.lt_or_ge n2 30 with h30 | h30
     · have z1 : decide ((n2 : Int) < 30) = true := by simp; omega
       have z2 : decide (n2 < 30) = true := by simp; omega
       have H30 := hid h30
       have HSZ4 : Hid ((w3.alloc (.cells #[.string (str (x).nm), .int .i64 (x).k.t, .int .i64 (x).k.c, .int .i64 (x).k.e, .slice (x).A (x).n (x).c, .bool (x).dr] 94)).heap.size = w3.heap.size + 1) := hid (by simp)
       clear h30
       go_wp2_with (at_builtin; refine wpList_app1 _ rfl _ _ 78 _ rfl w.heap.size 9 _ 16 Tryz.underlying78 Tryz.infoS rfl _ _ _ _ rfl HR4.out.1 (.string (str x.nm)) rfl (by rw [HSZ4.out]; rfl) (by have := H30.out; omega) (by have := H30.out; unfold maxLen; omega) HB4.out.size ?_)
       intro A5 c5' w5 hc5 hr5 hg5 hb5 hs5
       have HR5 := hid (HR4.out.more hr5 HNM.out)
       have HB5 := hid (HB4.out.trans hb5)
       have HN5 : Hid (n2 + 1 ≤ 30) := hid H30.out
       clear hc5 hr5 hg5 hb5 hs5 HR4 HB4 c0 c1' c2' c3 c4 c5 y0 y1 y2 y3 y4 y5 z1 z2
       go_wp2_with fail
       rw [← HA.out]
       go_roundg (o.Ln - (i + 1))
       case measure => exact nm_meas hgk2.out HIN.out
       case rel => exact ⟨i + 1, A5, n2 + 1, c5', _, rfl, by first | rfl | rw [wi], hid rfl, hid HIN.out, HR5, HN5, HB5⟩
     · have z1 : decide ((n2 : Int) < 30) = false := by simp; omega
       have z2 : decide (n2 < 30) = false := by simp; omega
       clear h30
       go_wp2_with fail
       rw [← HA.out]
       go_roundg (o.Ln - (i + 1))
       case measure => exact nm_meas hgk2.out HIN.out
       case rel => exact ⟨i + 1, A2, n2, c2, out2, rfl, by first | rfl | rw [wi], hid rfl, hid HIN.out, HR4, hn2, HB4⟩
   · have hin : i = o.Ln := by have := hi2.out; omega
     subst hin
     have i2 : ¬ (o.Ln : Int) < (o.Ln : Int) := by omega
     clear hge2 hi2 hgk2
     go_wp2_with fail
     go_roundg (n - (j + 1))
     case measure => exact nm_meas hgk.out HJN.out
     case rel => exact ⟨j + 1, A2, n2, c2, out2, rfl, by first | rfl | rw [wj], hid rfl, hid HJN.out, hO, hn2, hB⟩
 · have hjn : j = n := by have := hj.out; omega
   subst hjn
   have j2 : ¬ (j : Int) < (j : Int) := by omega
   clear hge hj hgk
   go_wp2
   go_ret
   exact ⟨A1, n1, c1, rfl, ⟨out, hO.out⟩, hn1.out, hB.out⟩
def PP (gd gv gc gs ge gw gz hs n : Nat) (d : St) (v : Va) (c : Ce) (L : List Bb) (dn : Bool) (d' : St) (t : Va) (c' : Ce) (L' : List Bb) (dn' : Bool) : Ob := (TS gd d gv v gc c gs n L dn).and (RS ge d' gw t gz c' hs L' dn')
theorem PP.ok (gd gv gc gs ge gw gz hs n : Nat) (d : St) (v : Va) (c : Ce) (L : List Bb) (dn : Bool) (d' : St) (t : Va) (c' : Ce) (L' : List Bb) (dn' : Bool) : (PP gd gv gc gs ge gw gz hs n d v c L dn d' t c' L' dn').Ok := (TS.ok _ _ _ _ _ _ _ _ _ _).and (RS.ok _ _ _ _ _ _ _ _ _)
theorem pf_a (ge : Nat) (d' : St) (gw : Nat) (t : Va) (gz : Nat) (c' : Ce) (hs : Nat) (L' : List Bb) (dn' : Bool) : Foc fun P => P.and (RS ge d' gw t gz c' hs L' dn') := Foc.one Foc.self (RS.ok _ _ _ _ _ _ _ _ _)
theorem pf_b (gd : Nat) (d : St) (gv : Nat) (v : Va) (gc : Nat) (c : Ce) (gs n : Nat) (L : List Bb) (dn : Bool) : Foc fun P => (TS gd d gv v gc c gs n L dn).and P := Foc.two Foc.self (TS.ok _ _ _ _ _ _ _ _ _ _)
theorem On.reop {w wr : World} {P Q R S T U : Ob} {X : Nat → Prop} (h : On w ((((P.and Q).and (R.and S)).and T).and U) wr X) : On w ((P.and T).and (R.and U)) wr X := by
 obtain ⟨F, ⟨A, Uf, ⟨B, Tf, ⟨C, D, ⟨Pf, Qf, p1, q1, pq, e1⟩, ⟨Rf, Sf, r1, s1, rs, e2⟩, cd, e3⟩, t1, bt, e4⟩, u1, au, e5⟩, h1, h2, h3⟩ := h
 have iP : ∀ j, Pf j → C j := fun j hj => (e1 j).2 (.inl hj)
 have iR : ∀ j, Rf j → D j := fun j hj => (e2 j).2 (.inl hj)
 have iB : ∀ j, C j ∨ D j → B j := fun j hj => (e3 j).2 hj
 have iA : ∀ j, B j ∨ Tf j → A j := fun j hj => (e4 j).2 hj
 have iF : ∀ j, A j ∨ Uf j → F j := fun j hj => (e5 j).2 hj
 have all : ∀ j, (Pf j ∨ Tf j) ∨ (Rf j ∨ Uf j) → F j := by
  rintro j ((hj | hj) | (hj | hj))
  · exact iF j (.inl (iA j (.inl (iB j (.inl (iP j hj))))))
  · exact iF j (.inl (iA j (.inr hj)))
  · exact iF j (.inl (iA j (.inl (iB j (.inr (iR j hj))))))
  · exact iF j (.inr hj)
 refine ⟨fun j => (Pf j ∨ Tf j) ∨ (Rf j ∨ Uf j), ⟨fun j => Pf j ∨ Tf j, fun j => Rf j ∨ Uf j, ⟨Pf, Tf, p1, t1, fun j hj ht => bt j (iB j (.inl (iP j hj))) ht, fun _ => Iff.rfl⟩, ⟨Rf, Uf, r1, u1, fun j hj hu => au j (iA j (.inl (iB j (.inr (iR j hj))))) hu, fun _ => Iff.rfl⟩, ?_, fun _ => Iff.rfl⟩, fun j hj => h1 j (all j hj), h2, fun x hx => ⟨fun e => (h3 x hx).1 (all x e), (h3 x hx).2⟩⟩
 rintro j (hj | hj) (hk | hk)
 · exact cd j (iP j hj) (iR j hk)
 · exact au j (iA j (.inl (iB j (.inl (iP j hj))))) hk
 · exact bt j (iB j (.inr (iR j hk))) hj
 · exact au j (iA j (.inr hj)) hk
theorem On.regr {w wr : World} {P R T U : Ob} {X : Nat → Prop} (h : On w (((P.and R).and T).and U) wr X) : On w ((P.and T).and (R.and U)) wr X := by
 obtain ⟨F, ⟨A, Uf, ⟨B, Tf, ⟨Pf, Rf, p1, r1, pr, e3⟩, t1, bt, e4⟩, u1, au, e5⟩, h1, h2, h3⟩ := h
 have all : ∀ j, (Pf j ∨ Tf j) ∨ (Rf j ∨ Uf j) → F j := by
  rintro j ((hj | hj) | (hj | hj))
  · exact (e5 j).2 (.inl ((e4 j).2 (.inl ((e3 j).2 (.inl hj)))))
  · exact (e5 j).2 (.inl ((e4 j).2 (.inr hj)))
  · exact (e5 j).2 (.inl ((e4 j).2 (.inl ((e3 j).2 (.inr hj)))))
  · exact (e5 j).2 (.inr hj)
 refine ⟨fun j => (Pf j ∨ Tf j) ∨ (Rf j ∨ Uf j), ⟨fun j => Pf j ∨ Tf j, fun j => Rf j ∨ Uf j, ⟨Pf, Tf, p1, t1, fun j hj ht => bt j ((e3 j).2 (.inl hj)) ht, fun _ => Iff.rfl⟩, ⟨Rf, Uf, r1, u1, fun j hj hu => au j ((e4 j).2 (.inl ((e3 j).2 (.inr hj)))) hu, fun _ => Iff.rfl⟩, ?_, fun _ => Iff.rfl⟩, fun j hj => h1 j (all j hj), h2, fun x hx => ⟨fun e => (h3 x hx).1 (all x e), (h3 x hx).2⟩⟩
 rintro j (hj | hj) (hk | hk)
 · exact pr j hj hk
 · exact au j ((e4 j).2 (.inl ((e3 j).2 (.inl hj)))) hk
 · exact bt j ((e3 j).2 (.inr hk)) hj
 · exact au j ((e4 j).2 (.inr hj)) hk
section
variable {w wr : World} {gd gv gc gs ge gw gz hs nb : Nat} {d d' : St} {v t : Va} {c c' : Ce} {L L' : List Bb} {dn dn' : Bool} {X : Nat → Prop}
theorem p_over (h : On w (PP gd gv gc gs ge gw gz hs nb d v c L dn d' t c' L' dn') wr X) (i : Int) (A : Option Addr) (n k : Nat) (l : List UInt8) (hr : Bts wr 0 wr.heap.size A n l) (hW : d.W.length ≤ 100000) :
 Calls Tryz.prog 22 #[.pointer (some ⟨gd, 0, none⟩), .int .i64 i, .slice A n k] wr fun e w' => e = .returned (.int .i64 (ovE d i l.length)) ∧ On w (PP gd gv gc gs ge gw gz hs nb (ovS d i l) v c L dn d' t c' L' dn') w' X ∧ Stay X wr w' :=
 dover_on (((pf_a ge d' gw t gz c' hs L' dn').comp (ts_t gs gd gv gc nb L dn)).comp (tc_d gv v gc c)) h i A n k l hr hW
theorem p_rover (h : On w (PP gd gv gc gs ge gw gz hs nb d v c L dn d' t c' L' dn') wr X) (i : Int) (l : List UInt8) (hW : d'.W.length ≤ 100000) :
 Calls Tryz.prog 23 #[.pointer (some ⟨ge, 0, none⟩), .int .i64 i, .string (str l)] wr fun e w' => e = .returned (.int .i64 (ovE d' i l.length)) ∧ On w (PP gd gv gc gs ge gw gz hs nb d v c L dn (ovS d' i l) t c' L' dn') w' X ∧ Stay X wr w' :=
 rdover_on (((pf_b gd d gv v gc c gs nb L dn).comp (rs_t hs ge gw gz L' dn')).comp (tr_d gw t gz c')) h i l hW
theorem p_dread (h : On w (PP gd gv gc gs ge gw gz hs nb d v c L dn d' t c' L' dn') wr X) (i : Int) :
 Calls Tryz.prog 24 #[.pointer (some ⟨gd, 0, none⟩), .int .i64 i] wr fun e w' => ∃ A n k, e = .returned (.tuple #[.slice A n k, .int .i64 (rdE d i)]) ∧ w'.ownsRow wr.heap.size 5 1 (.slice A n k) n (bs (rdB d i)) ∧ n ≤ 16 ∧ Below wr.heap.size wr w' :=
 dread_on (((pf_a ge d' gw t gz c' hs L' dn').comp (ts_t gs gd gv gc nb L dn)).comp (tc_d gv v gc c)) h i
theorem p_rdread (h : On w (PP gd gv gc gs ge gw gz hs nb d v c L dn d' t c' L' dn') wr X) (i : Int) (hW : d'.W.length ≤ 1000000) :
 Calls Tryz.prog 25 #[.pointer (some ⟨ge, 0, none⟩), .int .i64 i] wr fun e w' => e = .returned (.tuple #[.string (str (rdB d' i)), .int .i64 (rdE d' i)]) ∧ wr = w' :=
 rdread_on (((pf_b gd d gv v gc c gs nb L dn).comp (rs_t hs ge gw gz L' dn')).comp (tr_d gw t gz c')) h i hW
theorem p_crash (h : On w (PP gd gv gc gs ge gw gz hs nb d v c L dn d' t c' L' dn') wr X) (KA : Option Addr) (kn kc : Nat) (keep : List Bool) (hk : Lst wr 0 w.heap.size KA kn (keep.map .bool)) (hW : d.W.length ≤ 1000000) :
 Calls Tryz.prog 27 #[.pointer (some ⟨gd, 0, none⟩), .slice KA kn kc] wr fun e w' => e = .returned (.tuple #[]) ∧ On w (PP gd gv gc gs ge gw gz hs nb (d.crash keep) v c L dn d' t c' L' dn') w' X ∧ Stay X wr w' :=
 dcrash_on (((pf_a ge d' gw t gz c' hs L' dn').comp (ts_t gs gd gv gc nb L dn)).comp (tc_d gv v gc c)) h KA kn kc keep (hk.wide (nl _) h.below.size) (fun h0 x hx => .inr (by obtain ⟨g, off, rfl, _, h3, _⟩ := hk.2 h0; simp at hx; omega)) hW
theorem p_rcrash (h : On w (PP gd gv gc gs ge gw gz hs nb d v c L dn d' t c' L' dn') wr X) (KA : Option Addr) (kn kc : Nat) (keep : List Bool) (hk : Lst wr 0 w.heap.size KA kn (keep.map .bool)) (hW : d'.W.length ≤ 1000000) :
 Calls Tryz.prog 28 #[.pointer (some ⟨ge, 0, none⟩), .slice KA kn kc] wr fun e w' => e = .returned (.tuple #[]) ∧ On w (PP gd gv gc gs ge gw gz hs nb d v c L dn (d'.crash keep) t c' L' dn') w' X ∧ Stay X wr w' :=
 rdcrash_on (((pf_b gd d gv v gc c gs nb L dn).comp (rs_t hs ge gw gz L' dn')).comp (tr_d gw t gz c')) h KA kn kc keep (hk.wide (nl _) h.below.size) (fun h0 x hx => .inr (by obtain ⟨g, off, rfl, _, h3, _⟩ := hk.2 h0; simp at hx; omega)) hW
theorem p_limit (h : On w (PP gd gv gc gs ge gw gz hs nb d v c L dn d' t c' L' dn') wr X) (i : Int) (hi : i ≤ 9223372036854775807) :
 Calls Tryz.prog 20 #[.pointer (some ⟨gd, 0, none⟩), .int .i64 i] wr fun e w' => e = .returned (.tuple #[]) ∧ On w (PP gd gv gc gs ge gw gz hs nb (d.bound i) v c L dn d' t c' L' dn') w' X ∧ Stay X wr w' :=
 dlimit_on (((pf_a ge d' gw t gz c' hs L' dn').comp (ts_t gs gd gv gc nb L dn)).comp (tc_d gv v gc c)) h i hi
theorem p_rbound (h : On w (PP gd gv gc gs ge gw gz hs nb d v c L dn d' t c' L' dn') wr X) (i : Int) (hi : i ≤ 9223372036854775807) :
 Calls Tryz.prog 21 #[.pointer (some ⟨ge, 0, none⟩), .int .i64 i] wr fun e w' => e = .returned (.tuple #[]) ∧ On w (PP gd gv gc gs ge gw gz hs nb d v c L dn (d'.bound i) t c' L' dn') w' X ∧ Stay X wr w' :=
 rdbound_on (((pf_b gd d gv v gc c gs nb L dn).comp (rs_t hs ge gw gz L' dn')).comp (tr_d gw t gz c')) h i hi
theorem p_ver (h : On w (PP gd gv gc gs ge gw gz hs nb d v c L dn d' t c' L' dn') wr X) :
 Calls Tryz.prog 33 #[.pointer (some ⟨gc, 0, none⟩)] wr fun e w' => e = .returned (.int .i64 (c.ver : Int)) ∧ wr = w' :=
 cver_c (((pf_a ge d' gw t gz c' hs L' dn').comp (ts_t gs gd gv gc nb L dn)).comp (tc_c gd d gv v)) h
theorem p_rver (h : On w (PP gd gv gc gs ge gw gz hs nb d v c L dn d' t c' L' dn') wr X) : wr.cell? ⟨gz, 0, none⟩ = some (.int .i64 (c'.ver : Int)) :=
 (ce_cells (ce_at (((pf_b gd d gv v gc c gs nb L dn).comp (rs_t hs ge gw gz L' dn')).comp (tr_c ge d' gw t)) h).1).1
theorem p_destroy (h : On w (PP gd gv gc gs ge gw gz hs nb d v c L dn d' t c' L' dn') wr X) (k : Ky) (hk : k.wf) (hL : v.L.length ≤ 1000000) (hG : v.G.length ≤ 1000000) :
 Calls Tryz.prog 26 #[.pointer (some ⟨gv, 0, none⟩), (.agg #[.int .i64 (k).t, .int .i64 (k).c, .int .i64 (k).e])] wr fun e w' => e = .returned (.tuple #[]) ∧ On w (PP gd gv gc gs ge gw gz hs nb d (v.destroy k) c L dn d' t c' L' dn') w' X ∧ Stay X wr w' := by
 obtain ⟨F, h1, _, _, hf⟩ := On.at_ (((pf_a ge d' gw t gz c' hs L' dn').comp (ts_t gs gd gv gc nb L dn)).comp (tc_v gd d gc c)) h
 refine (destroy_any wr F gv v h1 k hk hL hG).mono ?_
 rintro e w' ⟨rfl, hl⟩
 obtain ⟨h2, h3, h4⟩ := hf w' (VtO gv (v.destroy k)) hl
 exact ⟨rfl, h2, h3, h4⟩
theorem p_gone (h : On w (PP gd gv gc gs ge gw gz hs nb d v c L dn d' t c' L' dn') wr X) (k : Ky) : ∃ A k0 B b, Blk wr gw 40 #[.slice A t.L.length k0, .slice B t.G.length b] ∧ KRow wr B b t.G ∧ (∀ x, B.map (·.block) = some x → x ≠ gw ∧ ¬ X x) ∧ (∀ x, X x → x ≠ gw) ∧
 ∀ (w8 w5 : World) (B5 : Option Addr) (b5 : Nat), Below wr.heap.size wr w8 → w8.grownBy w5 (B.map (·.block)) → KRow w5 B5 b5 (t.G ++ [k]) → Lies B B5 w8.heap.size →
  On w (PP gd gv gc gs ge gw gz hs nb d v c L dn d' ⟨t.L, t.G ++ [k]⟩ c' L' dn') (w5.setCell ⟨gw, 1, none⟩ (.slice B5 (t.G ++ [k]).length b5)) X ∧ Stay X wr (w5.setCell ⟨gw, 1, none⟩ (.slice B5 (t.G ++ [k]).length b5)) := by
 obtain ⟨F, ⟨A, k0, B, b, h1⟩, h5, h6, hf⟩ := On.at_ (((pf_b gd d gv v gc c gs nb L dn).comp (rs_t hs ge gw gz L' dn')).comp (tr_v ge d' gz c')) h
 refine ⟨A, k0, B, b, h1.blk, h1.gon, fun x hx => ⟨(h1.Bg x hx).1, fun hX => h6 x hX (h1.Bg x hx).2⟩, fun x hx he => h6 x hx (he ▸ h1.Fg), fun w8 w5 B5 b5 hb hg ho hL => ?_⟩
 have hl : (RVtO gw ⟨t.L, t.G ++ [k]⟩).Left wr _ F := Ob.Left.pre hb ((h1.bel hb).gone k hg ho hL)
 obtain ⟨h2, h3, h4⟩ := hf _ (RVtO gw ⟨t.L, t.G ++ [k]⟩) hl
 exact ⟨h2, h3, h4⟩
theorem p_list (h : On w (PP gd gv gc gs ge gw gz hs nb d v c L dn d' t c' L' dn') wr X) (hr : L.Pairwise risen) (hl : L.length ≤ 1000000) (hnm : ∀ x ∈ L, x.nm.length ≤ maxLen) :
 Calls Tryz.prog 30 #[.pointer (some ⟨gs, 0, none⟩)] wr fun e w' => ∃ A k, e = .returned (.slice A L.length k) ∧ BRow 90 w' wr.heap.size A k L ∧ Below wr.heap.size wr w' :=
 slist_on ((pf_a ge d' gw t gz c' hs L' dn').comp (ts_s gd d gv v gc c)) h hr hl hnm
theorem p_free (h : On w (PP gd gv gc gs ge gw gz hs nb d v c L dn d' t c' L' dn') wr X) (hn : 2 ≤ nb) : Calls Tryz.prog 31 #[.pointer (some ⟨gs, 0, none⟩)] wr fun e w' => e = .returned (.int .i64 ((frs nb L).length : Int)) ∧ wr = w' :=
 sfree_on ((pf_a ge d' gw t gz c' hs L' dn').comp (ts_s gd d gv v gc c)) h hn
theorem p_rfree (h : On w (PP gd gv gc gs ge gw gz hs nb d v c L dn d' t c' L' dn') wr X) (hn : 2 ≤ d'.n) (hl : L'.length ≤ 100000) :
 Calls Tryz.prog 32 #[.pointer (some ⟨hs, 0, none⟩)] wr fun e w' => ∃ A k, e = .returned (.slice A (frs d'.n L').length k) ∧ w'.ownsRow wr.heap.size 3 1 (.slice A (frs d'.n L').length k) (frs d'.n L').length (ni9 (frs d'.n L')) ∧ Below wr.heap.size wr w' :=
 rsfree_on (pf_b gd d gv v gc c gs nb L dn) h hn hl
theorem p_rat (h : On w (PP gd gv gc gs ge gw gz hs nb d v c L dn d' t c' L' dn') wr X) : ∃ B k, RSoB wr hs ge gw gz L' dn' B k := rso_at ((pf_b gd d gv v gc c gs nb L dn).comp (rs_s ge d' gw t gz c')) h
theorem p_get (h : On w (PP gd gv gc gs ge gw gz hs nb d v c L dn d' t c' L' dn') wr X) (nm : List UInt8) (hnm : nm.length ≤ maxLen) (hw : ∀ x ∈ L, x.wf ∧ x.p.k = x.k) :
 Calls Tryz.prog 35 #[.pointer (some ⟨gs, 0, none⟩), .string (str nm)] wr fun e w' => ∃ A m k, e = .returned (.tuple #[.slice A m k, .int .i64 (sgE d v L nm)]) ∧ w'.ownsRow wr.heap.size 5 1 (.slice A m k) m (bs (sgB d v L nm)) ∧ m ≤ 65536 ∧ Below wr.heap.size wr w' :=
 sget_on (pf_a ge d' gw t gz c' hs L' dn') (fun _ h => h.and (RS.ok _ _ _ _ _ _ _ _ _)) h nm hnm hw
theorem p_rget (h : On w (PP gd gv gc gs ge gw gz hs nb d v c L dn d' t c' L' dn') wr X) (nm : List UInt8) (hl : L'.length ≤ 100000) (hw : ∀ x ∈ L', x.wf ∧ x.p.k = x.k) (hW : d'.W.length ≤ 1000000) (hG : t.G.length ≤ 1000000) (hL : t.L.length ≤ 1000000) :
 Calls Tryz.prog 36 #[.pointer (some ⟨hs, 0, none⟩), .string (str nm)] wr fun e w' => e = .returned (.tuple #[.string (str (sgB d' t L' nm)), .int .i64 (sgE d' t L' nm)]) ∧ Below wr.heap.size wr w' :=
 rsget_on (pf_b gd d gv v gc c gs nb L dn) (fun _ h => (TS.ok _ _ _ _ _ _ _ _ _ _).and h) h nm hl hw hW hG hL
theorem p_commit {A : Option Addr} {m q : Nat} {l : List Hc} (h : On w (PP gd gv gc gs ge gw gz hs nb d v c L dn d' t c' L' dn') wr X) (hA : ChOn (fun b => X b ∨ b < w.heap.size) wr A m l) (hm : m ≤ 10000) (hR : Rgt L) (hwf : ∀ x ∈ L, x.wf) (hlt : ∀ x ∈ L, x.b < (nb : Int)) (hn : d.n = nb) (hW : d.W.length ≤ 30000) (hvl : v.L.length ≤ 300000) (hv : c.ver ≤ 500000) :
 Calls Tryz.prog 18 #[.pointer (some ⟨gs, 0, none⟩), .slice A m q] wr fun e w' => e = .returned (.int .i64 (cmS ⟨d, v, c, L, dn⟩ (l.map Hc.ch)).1) ∧
  On w (PP gd gv gc gs ge gw gz hs nb (cmS ⟨d, v, c, L, dn⟩ (l.map Hc.ch)).2.d (cmS ⟨d, v, c, L, dn⟩ (l.map Hc.ch)).2.v (cmS ⟨d, v, c, L, dn⟩ (l.map Hc.ch)).2.c (cmS ⟨d, v, c, L, dn⟩ (l.map Hc.ch)).2.L (cmS ⟨d, v, c, L, dn⟩ (l.map Hc.ch)).2.dn d' t c' L' dn') w' X ∧ Stay X wr w' :=
 commit_on (pf_a ge d' gw t gz c' hs L' dn') h hA hm hR hwf hlt hn hW hvl hv
theorem p_rcommit {A : Option Addr} {m q : Nat} {l : List Hc} (h : On w (PP gd gv gc gs ge gw gz hs nb d v c L dn d' t c' L' dn') wr X) (hA : ChOn (fun b => X b ∨ b < w.heap.size) wr A m l) (hmq : m ≤ q) (hm : m ≤ 10000) (hR : Rgt L') (hwf : ∀ x ∈ L', x.wf) (hn2 : 2 ≤ d'.n) (hW : d'.W.length ≤ 30000) (htl : t.L.length ≤ 300000) (htg : t.G.length ≤ 400000) (hv : c'.ver ≤ 400000) :
 Calls Tryz.prog 19 #[.pointer (some ⟨hs, 0, none⟩), .slice A m q] wr fun e w' => e = .returned (.int .i64 (cmS ⟨d', t, c', L', dn'⟩ (l.map Hc.ch)).1) ∧
  On w (PP gd gv gc gs ge gw gz hs nb d v c L dn (cmS ⟨d', t, c', L', dn'⟩ (l.map Hc.ch)).2.d (cmS ⟨d', t, c', L', dn'⟩ (l.map Hc.ch)).2.v (cmS ⟨d', t, c', L', dn'⟩ (l.map Hc.ch)).2.c (cmS ⟨d', t, c', L', dn'⟩ (l.map Hc.ch)).2.L (cmS ⟨d', t, c', L', dn'⟩ (l.map Hc.ch)).2.dn) w' X ∧ Stay X wr w' :=
 rcommit_on (pf_b gd d gv v gc c gs nb L dn) h hA hmq hm hR hwf hn2 hW htl htg hv
theorem p_open (h : On w (PP gd gv gc gs ge gw gz hs nb d v c L dn d' t c' L' dn') wr X) (hv : c.ver ≤ 500000) (hm : c.mark ≤ 600000) :
 Calls Tryz.prog 15 #[.pointer (some ⟨gd, 0, none⟩), .pointer (some ⟨gv, 0, none⟩), .pointer (some ⟨gc, 0, none⟩)] wr fun e w' => ∃ p, e = .returned (.tuple #[.pointer p, .int .i64 (soE d v c)]) ∧ Below wr.heap.size wr w' ∧ (soE d v c ≠ 0 → p = none) ∧
  (soE d v c = 0 → ∃ gs G, p = some ⟨gs, 0, none⟩ ∧ StO gs gd gv gc d.n (soL d v c) false w' G ∧ ∀ j, G j → wr.heap.size ≤ j) :=
 sopen_on ((pf_a ge d' gw t gz c' hs L' dn').comp (ts_t gs gd gv gc nb L dn)) (fun _ h => (h.and (StO.ok _ _ _ _ _ _ _)).and (RS.ok _ _ _ _ _ _ _ _ _)) h hv hm
theorem p_ropen {Q : Ob} (hQ : Q.Ok) (h : On w ((PP gd gv gc gs ge gw gz hs nb d v c L dn d' t c' L' dn').and Q) wr X) (hW : d'.W.length ≤ 1000000) (hG : t.G.length ≤ 1000000) (hL : t.L.length ≤ 1000000) (hv : c'.ver ≤ 500000) (hm : c'.mark ≤ 600000) (hgb : (gtB d' t c').length ≤ 65536) :
 Calls Tryz.prog 16 #[.pointer (some ⟨ge, 0, none⟩), .pointer (some ⟨gw, 0, none⟩), .pointer (some ⟨gz, 0, none⟩)] wr (ROp wr ge gw gz d' t c') :=
 rsopen_on ((Foc.one Foc.self hQ).comp ((pf_b gd d gv v gc c gs nb L dn).comp (rs_t hs ge gw gz L' dn'))) (fun _ h => ((TS.ok _ _ _ _ _ _ _ _ _ _).and (h.and (RStO.ok _ _ _ _ _ _))).and hQ) h hW hG hL hv hm hgb
end
end Go.Proofs.YtolaojkcofbkhaaGreat
