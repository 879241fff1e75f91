/- A device, a vault and the document's, side by side: what each call leaves of all four. -/
import Derived.Test.YtocmgdhgimpfhaaPgOn
import Derived.Test.YtocmgdhgimpfhaaPgRr
import Derived.Test.YtocmgdhgimpfhaaPgRw
namespace Go.Proofs.Ytocmgdhgimpfhaa
open Go.RowKit

def RV (ge : Nat) (d : St) (gw : Nat) (t : Va) : Ob := (RDvO ge d).and (RVtO gw t)
theorem RV.ok (ge : Nat) (d : St) (gw : Nat) (t : Va) : (RV ge d gw t).Ok := (RDvO.ok ge d).and (RVtO.ok gw t)
def All (gd : Nat) (d : St) (gv : Nat) (v : Va) (ge : Nat) (d' : St) (gw : Nat) (t : Va) : Ob := (PV gd d gv v).and (RV ge d' gw t)
theorem All.ok (gd : Nat) (d : St) (gv : Nat) (v : Va) (ge : Nat) (d' : St) (gw : Nat) (t : Va) : (All gd d gv v ge d' gw t).Ok := (PV.ok gd d gv v).and (RV.ok ge d' gw t)
section
variable {w wr : World} {gd gv ge gw : Nat} {d d' : St} {v t : Va} {X : Nat → Prop}
theorem foc_p (ge : Nat) (d' : St) (gw : Nat) (t : Va) : Foc fun P => P.and (RV ge d' gw t) := Foc.one Foc.self (RV.ok ge d' gw t)
theorem foc_r (gd : Nat) (d : St) (gv : Nat) (v : Va) : Foc fun P => (PV gd d gv v).and P := Foc.two Foc.self (PV.ok gd d gv v)
theorem foc_d (gv : Nat) (v : Va) (ge : Nat) (d' : St) (gw : Nat) (t : Va) : Foc fun P => (P.and (VtO gv v)).and (RV ge d' gw t) := Foc.one (Foc.dv gv v) (RV.ok ge d' gw t)
theorem foc_v (gd : Nat) (d : St) (ge : Nat) (d' : St) (gw : Nat) (t : Va) : Foc fun P => ((DvO gd d).and P).and (RV ge d' gw t) := Foc.one (Foc.vt gd d) (RV.ok ge d' gw t)
theorem foc_rd (gd : Nat) (d : St) (gv : Nat) (v : Va) (gw : Nat) (t : Va) : Foc fun P => (PV gd d gv v).and (P.and (RVtO gw t)) := Foc.two (Foc.one Foc.self (RVtO.ok gw t)) (PV.ok gd d gv v)
theorem foc_rv (gd : Nat) (d : St) (gv : Nat) (v : Va) (ge : Nat) (d' : St) : Foc fun P => (PV gd d gv v).and ((RDvO ge d').and P) := Foc.two (Foc.two Foc.self (RDvO.ok ge d')) (PV.ok gd d gv v)
theorem a_write (h : On w (All gd d gv v ge d' gw t) wr X) (p : Pg) (hp : p.wf) (i : Int) (hi : i64ok i) (A : Option Addr) (n c : Nat) (l : List UInt8) (hr : Bts wr 0 wr.heap.size A n l) (hW : d.W.length ≤ 100000) (hL : v.L.length ≤ 1000000) :
    Calls Try.prog 31 #[.pointer (some ⟨gd, 0, none⟩), .pointer (some ⟨gv, 0, none⟩), .int .i64 i, (.agg #[.int .i64 (p).k.t, .int .i64 (p).k.c, .int .i64 (p).k.e, .int .i64 (p).id, .int .i64 (p).ver]), .slice A n c] wr fun e w' => e = .returned (.int .i64 (pwE d v i p l.length)) ∧ On w (All gd (pwD d v i p l.length) gv (pwV d v i p l) ge d' gw t) w' X ∧ Stay X wr w' :=
  pwrite_on (foc_p ge d' gw t) h p hp i hi A n c l hr hW hL
theorem a_read (h : On w (All gd d gv v ge d' gw t) wr X) (p : Pg) (hp : p.wf) (i : Int) (hi : i64ok i) :
    Calls Try.prog 51 #[.pointer (some ⟨gd, 0, none⟩), .pointer (some ⟨gv, 0, none⟩), .int .i64 i, (.agg #[.int .i64 (p).k.t, .int .i64 (p).k.c, .int .i64 (p).k.e, .int .i64 (p).id, .int .i64 (p).ver])] wr fun e w' => ∃ A n c, e = .returned (.tuple #[.slice A n c, .int .i64 (prE d v i p)]) ∧ w'.ownsRow wr.heap.size 5 1 (.slice A n c) n (bs (prB d v i p)) ∧ n ≤ 65536 ∧ Below wr.heap.size wr w' :=
  pread_on (foc_p ge d' gw t) h p hp i hi
theorem r_write (h : On w (All gd d gv v ge d' gw t) wr X) (p : Pg) (hp : p.wf) (i : Int) (hi : i64ok i) (l : List UInt8) (hW : d'.W.length ≤ 100000) (hG : t.G.length ≤ 1000000) (hL : t.L.length ≤ 1000000) :
    Calls Try.prog 36 #[.pointer (some ⟨ge, 0, none⟩), .pointer (some ⟨gw, 0, none⟩), .int .i64 i, (.agg #[.int .i64 (p).k.t, .int .i64 (p).k.c, .int .i64 (p).k.e, .int .i64 (p).id, .int .i64 (p).ver]), .string (str l)] wr fun e w' => e = .returned (.int .i64 (pwE d' t i p l.length)) ∧ On w (All gd d gv v ge (pwD d' t i p l.length) gw (pwV d' t i p l)) w' X ∧ Stay X wr w' := by
  obtain ⟨F, h1, _, _, hf⟩ := On.at_ (foc_r gd d gv v) h
  refine (rpwrite_c wr F ge gw d' t h1 p hp i hi l hW hG hL).mono ?_
  rintro e w' ⟨rfl, hl⟩
  obtain ⟨h2, h3, h4⟩ := hf w' (RV ge (pwD d' t i p l.length) gw (pwV d' t i p l)) hl
  exact ⟨rfl, h2, h3, h4⟩
theorem r_read (h : On w (All gd d gv v ge d' gw t) wr X) (p : Pg) (hp : p.wf) (i : Int) (hi : i64ok i) (hW : d'.W.length ≤ 1000000) (hG : t.G.length ≤ 1000000) (hL : t.L.length ≤ 1000000) :
    Calls Try.prog 52 #[.pointer (some ⟨ge, 0, none⟩), .pointer (some ⟨gw, 0, none⟩), .int .i64 i, (.agg #[.int .i64 (p).k.t, .int .i64 (p).k.c, .int .i64 (p).k.e, .int .i64 (p).id, .int .i64 (p).ver])] wr fun e w' => e = .returned (.tuple #[.string (str (prB d' t i p)), .int .i64 (prE d' t i p)]) ∧ Below wr.heap.size wr w' := by
  obtain ⟨F, ⟨A, B, h1, h2, _, _⟩, _⟩ := On.at_ (foc_r gd d gv v) h
  exact rpread_c wr A B ge gw d' t h1 h2 p hp i hi hW hG hL
theorem a_dread (h : On w (All gd d gv v ge d' gw t) wr X) (i : Int) :
    Calls Try.prog 19 #[.pointer (some ⟨gd, 0, none⟩), .int .i64 i] wr fun e w' => ∃ A n c, e = .returned (.tuple #[.slice A n c, .int .i64 (rdE d i)]) ∧ w'.ownsRow wr.heap.size 5 1 (.slice A n c) n (bs (rdB d i)) ∧ n ≤ 16 ∧ Below wr.heap.size wr w' :=
  dread_on (foc_d gv v ge d' gw t) h i
theorem r_dread (h : On w (All gd d gv v ge d' gw t) wr X) (i : Int) (hW : d'.W.length ≤ 1000000) :
    Calls Try.prog 20 #[.pointer (some ⟨ge, 0, none⟩), .int .i64 i] wr fun e w' => e = .returned (.tuple #[.string (str (rdB d' i)), .int .i64 (rdE d' i)]) ∧ wr = w' := by
  obtain ⟨F, h1, _⟩ := On.at_ (foc_rd gd d gv v gw t) h
  exact rread_any wr F ge d' h1 i hW
theorem a_over (h : On w (All gd d gv v ge d' gw t) wr X) (i : Int) (A : Option Addr) (n c : Nat) (l : List UInt8) (hr : Bts wr 0 wr.heap.size A n l) (hW : d.W.length ≤ 100000) :
    Calls Try.prog 17 #[.pointer (some ⟨gd, 0, none⟩), .int .i64 i, .slice A n c] wr fun e w' => e = .returned (.int .i64 (ovE d i l.length)) ∧ On w (All gd (ovS d i l) gv v ge d' gw t) w' X ∧ Stay X wr w' :=
  dover_on (foc_d gv v ge d' gw t) h i A n c l hr hW
theorem r_over (h : On w (All gd d gv v ge d' gw t) wr X) (i : Int) (l : List UInt8) (hW : d'.W.length ≤ 100000) :
    Calls Try.prog 18 #[.pointer (some ⟨ge, 0, none⟩), .int .i64 i, .string (str l)] wr fun e w' => e = .returned (.int .i64 (ovE d' i l.length)) ∧ On w (All gd d gv v ge (ovS d' i l) gw t) w' X ∧ Stay X wr w' := by
  obtain ⟨F, h1, _, _, hf⟩ := On.at_ (foc_rd gd d gv v gw t) h
  refine (rover_any wr F ge d' h1 i l hW).mono ?_
  rintro e w' ⟨rfl, hl⟩
  obtain ⟨h2, h3, h4⟩ := hf w' (RDvO ge (ovS d' i l)) hl
  exact ⟨rfl, h2, h3, h4⟩
theorem a_crash (h : On w (All gd d gv v ge d' gw t) wr X) (KA : Option Addr) (kn kc : Nat) (keep : List Bool) (hk : Lst wr 0 w.heap.size KA kn (keep.map .bool)) (hW : d.W.length ≤ 1000000) :
    Calls Try.prog 15 #[.pointer (some ⟨gd, 0, none⟩), .slice KA kn kc] wr fun e w' => e = .returned (.tuple #[]) ∧ On w (All gd (d.crash keep) gv v ge d' gw t) w' X ∧ Stay X wr w' := by
  obtain ⟨F, h1, h5, _, hf⟩ := On.at_ (foc_d gv v ge d' gw t) h
  refine (crash_c wr F gd d h1 KA kn kc keep (hk.wide (Nat.le_refl _) h.below.size) (fun h0 u hu e => ?_) hW).mono ?_
  · obtain ⟨g, off, rfl, _, hg, _⟩ := hk.2 h0
    simp at hu
    subst hu
    have := h5 g e
    omega
  · rintro e w' ⟨rfl, hl⟩
    obtain ⟨h2, h3, h4⟩ := hf w' (DvO gd (d.crash keep)) hl
    exact ⟨rfl, h2, h3, h4⟩
theorem r_crash (h : On w (All gd d gv v ge d' gw t) wr X) (KA : Option Addr) (kn kc : Nat) (keep : List Bool) (hk : Lst wr 0 w.heap.size KA kn (keep.map .bool)) (hW : d'.W.length ≤ 1000000) :
    Calls Try.prog 16 #[.pointer (some ⟨ge, 0, none⟩), .slice KA kn kc] wr fun e w' => e = .returned (.tuple #[]) ∧ On w (All gd d gv v ge (d'.crash keep) gw t) w' X ∧ Stay X wr w' := by
  obtain ⟨F, h1, h5, _, hf⟩ := On.at_ (foc_rd gd d gv v gw t) h
  refine (rcrash_c wr F ge d' h1 KA kn kc keep (hk.wide (Nat.le_refl _) h.below.size) (fun h0 u hu e => ?_) hW).mono ?_
  · obtain ⟨g, off, rfl, _, hg, _⟩ := hk.2 h0
    simp at hu
    subst hu
    have := h5 g e
    omega
  · rintro e w' ⟨rfl, hl⟩
    obtain ⟨h2, h3, h4⟩ := hf w' (RDvO ge (d'.crash keep)) hl
    exact ⟨rfl, h2, h3, h4⟩
theorem a_sync (h : On w (All gd d gv v ge d' gw t) wr X) (hW : d.W.length ≤ 100000) :
    Calls Try.prog 34 #[.pointer (some ⟨gd, 0, none⟩)] wr fun e w' => e = .returned (.int .i64 (caE d)) ∧ On w (All gd (syS d) gv v ge d' gw t) w' X ∧ Stay X wr w' := by
  obtain ⟨F, h1, h5, _, hf⟩ := On.at_ (foc_d gv v ge d' gw t) h
  refine (sync_any wr F gd d h1 hW).mono ?_
  rintro e w' ⟨rfl, hl⟩
  obtain ⟨h2, h3, h4⟩ := hf w' (DvO gd (syS d)) hl
  exact ⟨rfl, h2, h3, h4⟩
theorem r_sync (h : On w (All gd d gv v ge d' gw t) wr X) (hW : d'.W.length ≤ 100000) :
    Calls Try.prog 37 #[.pointer (some ⟨ge, 0, none⟩)] wr fun e w' => e = .returned (.int .i64 (caE d')) ∧ On w (All gd d gv v ge (syS d') gw t) w' X ∧ Stay X wr w' := by
  obtain ⟨F, h1, h5, _, hf⟩ := On.at_ (foc_rd gd d gv v gw t) h
  refine (rsync_any wr F ge d' h1 hW).mono ?_
  rintro e w' ⟨rfl, hl⟩
  obtain ⟨h2, h3, h4⟩ := hf w' (RDvO ge (syS d')) hl
  exact ⟨rfl, h2, h3, h4⟩
theorem a_limit (h : On w (All gd d gv v ge d' gw t) wr X) (i : Int) (hi : i ≤ 9223372036854775807) :
    Calls Try.prog 13 #[.pointer (some ⟨gd, 0, none⟩), .int .i64 i] wr fun e w' => e = .returned (.tuple #[]) ∧ On w (All gd (d.bound i) gv v ge d' gw t) w' X ∧ Stay X wr w' := by
  obtain ⟨F, h1, h5, _, hf⟩ := On.at_ (foc_d gv v ge d' gw t) h
  refine (limit_c wr F gd d h1 i hi).mono ?_
  rintro e w' ⟨rfl, hl⟩
  obtain ⟨h2, h3, h4⟩ := hf w' (DvO gd (d.bound i)) hl
  exact ⟨rfl, h2, h3, h4⟩
theorem r_bound (h : On w (All gd d gv v ge d' gw t) wr X) (i : Int) (hi : i ≤ 9223372036854775807) :
    Calls Try.prog 14 #[.pointer (some ⟨ge, 0, none⟩), .int .i64 i] wr fun e w' => e = .returned (.tuple #[]) ∧ On w (All gd d gv v ge (d'.bound i) gw t) w' X ∧ Stay X wr w' := by
  obtain ⟨F, h1, h5, _, hf⟩ := On.at_ (foc_rd gd d gv v gw t) h
  refine (rbound_c wr F ge d' h1 i hi).mono ?_
  rintro e w' ⟨rfl, hl⟩
  obtain ⟨h2, h3, h4⟩ := hf w' (RDvO ge (d'.bound i)) hl
  exact ⟨rfl, h2, h3, h4⟩
theorem a_sealed (h : On w (All gd d gv v ge d' gw t) wr X) :
    Calls Try.prog 30 #[.pointer (some ⟨gv, 0, none⟩)] wr fun e w' => e = .returned (.int .i64 (v.L.length : Int)) ∧ wr = w' := by
  obtain ⟨F, h1, _⟩ := On.at_ (foc_v gd d ge d' gw t) h
  exact sealed_c wr F gv v h1
/-- The document's vault, its list of destroyed keys lengthened by hand. -/
theorem r_gone (h : On w (All gd d gv v ge d' gw t) wr X) (k : Ky) : ∃ A c B b, Blk wr gw 40 #[.slice A t.L.length c, .slice B t.G.length b] ∧ KRow wr B b t.G ∧ (∀ x, B.map (·.block) = some x → x ≠ gw ∧ ¬ X x) ∧ (∀ x, X x → x ≠ gw) ∧
    ∀ (w8 w5 : World) (B5 : Option Addr) (b5 : Nat), Below wr.heap.size wr w8 → w8.grownBy w5 (B.map (·.block)) → KRow w5 B5 b5 (t.G ++ [k]) → Lies B B5 w8.heap.size →
      On w (All gd d gv v ge d' gw ⟨t.L, t.G ++ [k]⟩) (w5.setCell ⟨gw, 1, none⟩ (.slice B5 (t.G ++ [k]).length b5)) X ∧ Stay X wr (w5.setCell ⟨gw, 1, none⟩ (.slice B5 (t.G ++ [k]).length b5)) := by
  obtain ⟨F, ⟨A, c, B, b, h1⟩, h5, h6, hf⟩ := On.at_ (foc_rv gd d gv v ge d') h
  refine ⟨A, c, B, b, h1.blk, h1.gon, fun x hx => ⟨(h1.Bg x hx).1, fun hX => h6 x hX (h1.Bg x hx).2⟩, fun x hx he => h6 x hx (he ▸ h1.Fg), fun w8 w5 B5 b5 hb hg ho hL => ?_⟩
  have hl : (RVtO gw ⟨t.L, t.G ++ [k]⟩).Left wr _ F := Ob.Left.pre hb ((h1.bel hb).gone k hg ho hL)
  obtain ⟨h2, h3, h4⟩ := hf _ (RVtO gw ⟨t.L, t.G ++ [k]⟩) hl
  exact ⟨h2, h3, h4⟩
theorem r_look (h : On w (All gd d gv v ge d' gw t) wr X) : ∃ A c, wr.cell? ⟨gw, 0, none⟩ = some (.slice A t.L.length c) := by
  obtain ⟨F, ⟨A, c, B, b, h1⟩, _⟩ := On.at_ (foc_rv gd d gv v ge d') h
  exact ⟨A, c, h1.cells.1⟩
/-- All four, new. -/
theorem all_new (h : On w (PV gd d gv v) wr X) {w4 : World} {G : Nat → Prop} (hr : RDev w4 G ge d') (hb : Below wr.heap.size wr w4) (hG : ∀ j, G j → wr.heap.size ≤ j) :
    On w (All gd d gv v ge d' w4.heap.size Va.new) (w4.alloc (.cells #[.slice none 0 0, .slice none 0 0] 40)) X ∧ Stay X wr (w4.alloc (.cells #[.slice none 0 0, .slice none 0 0] 40)) := by
  have hb4 : Below w4.heap.size w4 (w4.alloc (.cells #[.slice none 0 0, .slice none 0 0] 40)) := (Below.refl _ _).alloc (Nat.le_refl _) _
  have hb5 := hb.trans (hb4.mono hb.size)
  refine ⟨h.with_ (PV.ok gd d gv v) (Q := RV ge d' w4.heap.size Va.new) (G := fun j => G j ∨ j = w4.heap.size) ⟨G, fun j => j = w4.heap.size, hr.bel hb4, RVt.new w4, fun j hj e => ?_, fun _ => Iff.rfl⟩ hb5 (fun j hj => ?_), h.stay hb5⟩
  · have := hr.lt j hj
    omega
  · rcases hj with hj | hj
    · exact hG j hj
    · rw [hj]; exact hb.size
end
/-- What the vault and the document's answer alike. -/
theorem Sim.prE {s t : Va} (h : Sim s t) (d : St) (i : Int) (p : Pg) : prE d s i p = prE d t i p := by unfold Go.Proofs.Ytocmgdhgimpfhaa.prE; rw [h.opE]
theorem Sim.prB {s t : Va} (h : Sim s t) (d : St) (i : Int) (p : Pg) : prB d s i p = prB d t i p := by unfold Go.Proofs.Ytocmgdhgimpfhaa.prB; rw [h.opB]
theorem Sim.pwE {s t : Va} (h : Sim s t) (d : St) (i : Int) (p : Pg) (n : Nat) : pwE d s i p n = pwE d t i p n := by unfold Go.Proofs.Ytocmgdhgimpfhaa.pwE; rw [h.seE]
theorem Sim.pwD {s t : Va} (h : Sim s t) (d : St) (i : Int) (p : Pg) (n : Nat) : pwD d s i p n = pwD d t i p n := by unfold Go.Proofs.Ytocmgdhgimpfhaa.pwD; rw [h.seE, h.seH]
theorem Sim.pwV {s t : Va} (h : Sim s t) (d : St) (i : Int) (p : Pg) (l : List UInt8) : Sim (pwV d s i p l) (pwV d t i p l) := by
  unfold Go.Proofs.Ytocmgdhgimpfhaa.pwV
  split
  · exact h
  · exact h.seS _ _ _
/-- Without a device or a vault. -/
theorem pread_nil1 (w : World) (g : Option Addr) : Calls Try.prog 51 #[.pointer none, .pointer g, .int .i64 0, .agg #[.int .i64 0, .int .i64 0, .int .i64 0, .int .i64 0, .int .i64 0]] w fun e w' => e = .returned (.tuple #[.slice none 0 0, .int .i64 1]) ∧ Below w.heap.size w w' := by
  have HB : Hid (Below w.heap.size w (w.alloc (.cells #[.int .i64 0, .int .i64 0, .int .i64 0, .int .i64 0, .int .i64 0] 89))) := hid ((Below.refl _ _).alloc (Nat.le_refl _) _)
  go_enter Try.func51, Try.ntmps51
  go_wp2
  go_ret2
  exact ⟨rfl, HB.out⟩
theorem pread_nil2 (w : World) (g : Addr) : Calls Try.prog 51 #[.pointer (some g), .pointer none, .int .i64 0, .agg #[.int .i64 0, .int .i64 0, .int .i64 0, .int .i64 0, .int .i64 0]] w fun e w' => e = .returned (.tuple #[.slice none 0 0, .int .i64 1]) ∧ Below w.heap.size w w' := by
  have HB : Hid (Below w.heap.size w (w.alloc (.cells #[.int .i64 0, .int .i64 0, .int .i64 0, .int .i64 0, .int .i64 0] 89))) := hid ((Below.refl _ _).alloc (Nat.le_refl _) _)
  go_enter Try.func51, Try.ntmps51
  go_wp2
  go_ret2
  exact ⟨rfl, HB.out⟩
theorem pwrite_nil1 (w : World) (g : Option Addr) : Calls Try.prog 31 #[.pointer none, .pointer g, .int .i64 0, .agg #[.int .i64 0, .int .i64 0, .int .i64 0, .int .i64 0, .int .i64 0], .slice none 0 0] w fun e w' => e = .returned (.int .i64 1) ∧ Below w.heap.size w w' := by
  have HB : Hid (Below w.heap.size w (w.alloc (.cells #[.int .i64 0, .int .i64 0, .int .i64 0, .int .i64 0, .int .i64 0] 89))) := hid ((Below.refl _ _).alloc (Nat.le_refl _) _)
  go_enter Try.func31, Try.ntmps31
  go_wp2
  go_ret
  exact ⟨rfl, HB.out⟩
theorem pwrite_nil2 (w : World) (g : Addr) : Calls Try.prog 31 #[.pointer (some g), .pointer none, .int .i64 0, .agg #[.int .i64 0, .int .i64 0, .int .i64 0, .int .i64 0, .int .i64 0], .slice none 0 0] w fun e w' => e = .returned (.int .i64 1) ∧ Below w.heap.size w w' := by
  have HB : Hid (Below w.heap.size w (w.alloc (.cells #[.int .i64 0, .int .i64 0, .int .i64 0, .int .i64 0, .int .i64 0] 89))) := hid ((Below.refl _ _).alloc (Nat.le_refl _) _)
  go_enter Try.func31, Try.ntmps31
  go_wp2
  go_ret
  exact ⟨rfl, HB.out⟩
end Go.Proofs.Ytocmgdhgimpfhaa
