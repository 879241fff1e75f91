/- What a page's Read and Write answer, as functions; the cells of a page in a box. Plain mathematics of pages on a device that is on: what is read of what was written, of no program. Nothing is assumed. -/
import Derived.Test.YtolaojkcofbkhaaGreatPgMath
import Derived.Test.YtolaojkcofbkhaaGreatObDv
namespace Go.Proofs.YtolaojkcofbkhaaGreat
open Go.RowKit

instance (d : St) (i : Int) : Decidable (i < 0 ∨ (d.n : Int) ≤ i) := inferInstance
/-- Read: the error. -/
def prE (d : St) (v : Va) (i : Int) (p : Pg) : Int := if rdE d i ≠ 0 then rdE d i else if hOf (rdB d i) = 0 then 51 else opE v p.k (besd p i) (hOf (rdB d i))
/-- Read: the bytes. -/
def prB (d : St) (v : Va) (i : Int) (p : Pg) : List UInt8 := if rdE d i ≠ 0 then [] else if hOf (rdB d i) = 0 then [] else opB v p.k (besd p i) (hOf (rdB d i))
/-- Write: the error, the device, the vault. -/
def pwE (d : St) (v : Va) (i : Int) (p : Pg) (n : Nat) : Int := if i < 0 ∨ (d.n : Int) ≤ i then 2 else if seE v p.k n ≠ 0 then seE v p.k n else wrE d i 8
def pwD (d : St) (v : Va) (i : Int) (p : Pg) (n : Nat) : St := if i < 0 ∨ (d.n : Int) ≤ i then d else if seE v p.k n ≠ 0 then d else wrS d i (le8 (seH v p.k n))
def pwV (d : St) (v : Va) (i : Int) (p : Pg) (l : List UInt8) : Va := if i < 0 ∨ (d.n : Int) ≤ i then v else seS v p.k (besd p i) l
theorem seH_lt {v : Va} {k : Ky} {n : Nat} (h : v.L.length ≤ 1000000) : seH v k n < 18446744073709551616 := by
  unfold seH
  split
  · omega
  · split <;> omega
theorem pwD_n (d : St) (v : Va) (i : Int) (p : Pg) (n : Nat) : (pwD d v i p n).n = d.n := by
  unfold pwD
  split
  · rfl
  · split
    · rfl
    · exact wrS_n _ _ _
theorem pwD_W (d : St) (v : Va) (i : Int) (p : Pg) (n : Nat) : (pwD d v i p n).W.length ≤ d.W.length + 1 := by
  unfold pwD
  split
  · omega
  · split
    · omega
    · exact wrS_W _ _ _
theorem pwV_L (d : St) (v : Va) (i : Int) (p : Pg) (l : List UInt8) : (pwV d v i p l).L.length ≤ v.L.length + 1 ∧ (pwV d v i p l).G = v.G := by
  unfold pwV
  split
  · exact ⟨by omega, rfl⟩
  · exact seS_L _ _ _ _
theorem opE_le (v : Va) (k : Ky) (b : List UInt8) (h : Nat) : opE v k b h = 0 ∨ opE v k b h = 50 ∨ opE v k b h = 51 := by
  unfold opE
  split
  · exact .inr (.inl rfl)
  · split
    · exact .inl rfl
    · exact .inr (.inr rfl)
theorem opB_err {v : Va} {k : Ky} {b : List UInt8} {h : Nat} (he : opE v k b h ≠ 0) : opB v k b h = [] := by
  unfold opE at he
  unfold opB
  split
  · rfl
  · rename_i hg
    rw [if_neg hg] at he
    split at he
    · exact absurd rfl he
    · rename_i hx
      cases ho : opX v k b h with
      | none => rfl
      | some y => rw [ho] at hx; simp at hx
theorem rdB_err {d : St} {i : Int} (h : rdE d i ≠ 0) : rdB d i = [] := by
  unfold rdE at h
  unfold rdB
  by_cases hb : bad d i 0
  · rw [if_pos (.inl hb)]
  · rw [if_neg hb] at h
    by_cases ho : d.lim = some 0
    · rw [if_pos (.inr ho)]
    · rw [if_neg ho] at h; exact absurd rfl h
/-- A page in a box. -/
def PgB (w : World) (b : Nat) (p : Pg) : Prop := Blk w b 88 #[.int .i64 p.k.t, .int .i64 p.k.c, .int .i64 p.k.e, .int .i64 p.id, .int .i64 p.ver]
theorem pgB_cells {w : World} {b : Nat} {p : Pg} (h : PgB w b p) : w.cell? ⟨b, 0, none⟩ = some (.int .i64 p.k.t) ∧ w.cell? ⟨b, 1, none⟩ = some (.int .i64 p.k.c) ∧ w.cell? ⟨b, 2, none⟩ = some (.int .i64 p.k.e) ∧ w.cell? ⟨b, 3, none⟩ = some (.int .i64 p.id) ∧ w.cell? ⟨b, 4, none⟩ = some (.int .i64 p.ver) :=
  ⟨(Blk.cell h 0).trans rfl, (Blk.cell h 1).trans rfl, (Blk.cell h 2).trans rfl, (Blk.cell h 3).trans rfl, (Blk.cell h 4).trans rfl⟩
theorem PgB.below {w w' : World} {b : Nat} {p : Pg} (h : PgB w b p) {B : Nat} (hb : Below B w w') (hB : b < B) : PgB w' b p := Blk.keep h (hb.block b hB)
theorem pgB_drew {w : World} {b : Nat} {p : Pg} (h : PgB w b p) : PgB w.drew b p := h
end Go.Proofs.YtolaojkcofbkhaaGreat
/- Plain mathematics of pages on a device that is on: what is read of what was written, of no program. Nothing is assumed. -/
namespace Go.Proofs.YtolaojkcofbkhaaGreat

/-- A device that is on: how many blocks, what each reads as, how many writes wait at most. -/
structure Sd (d : St) (n : Nat) (B : Bl) (k : Nat) : Prop where
  on : d.lim = none
  n : d.n = n
  vw : app d.W d.K = B
  W : d.W.length ≤ k
theorem Sd.new (n : Nat) : Sd (St.new n) n zero 0 := ⟨rfl, rfl, rfl, Nat.le_refl _⟩
theorem se_ok {v : Va} {k : Ky} {n : Nat} (hr : k.right) (hn : n ≤ 65536) (hG : v.G = []) : seE v k n = 0 ∧ seH v k n = v.L.length + 1 := by
  have h1 : ¬ (¬ k.right ∨ 65536 < n) := by rintro (e | e); exact e hr; omega
  have h2 : ¬ k ∈ v.G := by rw [hG]; exact List.not_mem_nil
  exact ⟨by unfold seE; rw [if_neg h1, if_neg h2], by unfold seH; rw [if_neg h1, if_neg h2]⟩
theorem seS_ok {v : Va} {k : Ky} {b l : List UInt8} (hr : k.right) (hn : l.length ≤ 65536) (hG : v.G = []) : seS v k b l = ⟨v.L ++ [⟨k, b, l⟩], []⟩ := by
  have h1 : ¬ (¬ k.right ∨ 65536 < l.length) := by rintro (e | e); exact e hr; omega
  have h2 : ¬ k ∈ v.G := by rw [hG]; exact List.not_mem_nil
  unfold seS
  rw [if_neg h1, if_neg h2, hG]
section
variable {d : St} {n k : Nat} {B : Bl} {v : Va} {p q : Pg} {j : Nat}
theorem Sd.raw (h : Sd d n B k) (hj : j < n) : rdE d (j : Int) = 0 ∧ rdB d (j : Int) = B j := by
  have h1 : ¬ bad d (j : Int) 0 := by unfold bad; rw [h.n]; omega
  have h2 : ¬ d.lim = some 0 := by rw [h.on]; simp
  refine ⟨by unfold rdE; rw [if_neg h1, if_neg h2], ?_⟩
  unfold rdB
  rw [if_neg (by rintro (e | e); exact h1 e; exact h2 e), Int.toNat_natCast, h.vw]
theorem Sd.over (h : Sd d n B k) (hj : j < n) {l : List UInt8} (hl : l.length ≤ 16) : ovE d (j : Int) l.length = 0 ∧ Sd (ovS d (j : Int) l) n (upd B j (pad l)) k := by
  have h1 : ¬ bad d (j : Int) l.length := by unfold bad; rw [h.n]; omega
  refine ⟨by unfold ovE; rw [if_neg h1], ?_⟩
  unfold ovS
  rw [if_neg h1, Int.toNat_natCast]
  refine ⟨h.on, h.n, ?_, Nat.le_trans (List.length_filter_le _ _) h.W⟩
  rw [← h.vw]
  exact app_filter _ _ _ _
theorem Sd.write (h : Sd d n B k) (hj : j < n) {m : Nat} (hr : p.k.right) (hm : m ≤ 65536) (hG : v.G = []) :
    pwE d v (j : Int) p m = 0 ∧ Sd (pwD d v (j : Int) p m) n (upd B j (pad (le8 (v.L.length + 1)))) (k + 1) := by
  obtain ⟨e1, e2⟩ := se_ok hr hm hG
  have h0 : ¬ ((j : Int) < 0 ∨ (d.n : Int) ≤ (j : Int)) := by rw [h.n]; omega
  have h1 : ¬ bad d (j : Int) 8 := by unfold bad; rw [h.n]; omega
  have h2 : ¬ d.lim = some 0 := by rw [h.on]; simp
  refine ⟨by unfold pwE; rw [if_neg h0, if_neg (by simp [e1])]; unfold wrE caE; rw [if_neg h1, if_neg h2], ?_⟩
  unfold pwD
  rw [if_neg h0, if_neg (by simp [e1]), e2]
  unfold wrS
  rw [le8, le_len, if_neg (by rintro (e | e); exact h1 e; exact h2 e), Int.toNat_natCast]
  refine ⟨?_, h.n, ?_, ?_⟩
  · show d.lim.map _ = none
    rw [h.on]; rfl
  · show app (d.W ++ [_]) d.K = _
    rw [app_snoc, h.vw]
  · show (d.W ++ [_]).length ≤ _
    rw [List.length_append]
    have := h.W
    simp
    omega
theorem pwV_ok (h : Sd d n B k) (hj : j < n) {l : List UInt8} (hr : p.k.right) (hm : l.length ≤ 65536) (hG : v.G = []) : pwV d v (j : Int) p l = ⟨v.L ++ [⟨p.k, besd p j, l⟩], []⟩ := by
  have h0 : ¬ ((j : Int) < 0 ∨ (d.n : Int) ≤ (j : Int)) := by rw [h.n]; omega
  unfold pwV
  rw [if_neg h0, seS_ok hr hm hG]
theorem Sd.pr (h : Sd d n B k) (hj : j < n) : (prE d v (j : Int) p = if hOf (B j) = 0 then 51 else opE v p.k (besd p j) (hOf (B j))) ∧ (prB d v (j : Int) p = if hOf (B j) = 0 then [] else opB v p.k (besd p j) (hOf (B j))) := by
  obtain ⟨e1, e2⟩ := h.raw hj
  unfold prE prB
  have e3 : ¬ rdE d (j : Int) ≠ 0 := fun e => e e1
  rw [e2, if_neg e3, if_neg e3]
  exact ⟨rfl, rfl⟩
/-- What is read where a page's handle stands. -/
theorem Sd.hit (h : Sd d n B k) (hj : j < n) (hn : n ≤ 4096) {hd j0 : Nat} {l : List UInt8} (hb : B j = pad (le8 (hd + 1))) (hh : hd < 1000000) (hG : v.G = []) (hx : v.L[hd]? = some ⟨p.k, besd p j0, l⟩) (hp : p.wf) (hq : q.wf) (hj0 : j0 ≤ 4096) :
    prE d v (j : Int) q = (if p = q ∧ j0 = j then 0 else 51) ∧ prB d v (j : Int) q = (if p = q ∧ j0 = j then l else []) := by
  obtain ⟨e1, e2⟩ := h.pr (v := v) (p := q) hj
  rw [hb, hOf_le8 _ (by omega), if_neg (by omega)] at e1 e2
  have hbh : behind v.L (hd + 1) = some ⟨p.k, besd p j0, l⟩ := by
    unfold behind
    rw [if_neg (by omega), Nat.add_sub_cancel]
    exact hx
  have hi : (p.k = q.k ∧ besd p (j0 : Int) = besd q (j : Int)) ↔ (p = q ∧ j0 = j) := by
    constructor
    · rintro ⟨_, e⟩
      obtain ⟨h1, h2⟩ := besd_inj hp hq (show i64ok (j0 : Int) from ⟨by omega, by omega⟩) (show i64ok (j : Int) from ⟨by omega, by omega⟩) e
      exact ⟨h1, by omega⟩
    · rintro ⟨rfl, rfl⟩
      exact ⟨rfl, rfl⟩
  have hopx : opX v q.k (besd q j) (hd + 1) = if p = q ∧ j0 = j then some l else none := by
    unfold opX
    rw [hbh]
    show (if p.k = q.k ∧ besd p (j0 : Int) = besd q (j : Int) then some l else none) = _
    by_cases hc : p = q ∧ j0 = j
    · rw [if_pos (hi.2 hc), if_pos hc]
    · rw [if_neg (fun e => hc (hi.1 e)), if_neg hc]
  have hg : ¬ q.k ∈ v.G := by rw [hG]; exact List.not_mem_nil
  rw [e1, e2]
  unfold opE opB
  rw [if_neg hg, if_neg hg, hopx]
  by_cases hc : p = q ∧ j0 = j
  · rw [if_pos hc, if_pos hc, if_pos hc]; exact ⟨rfl, rfl⟩
  · rw [if_neg hc, if_neg hc, if_neg hc]; exact ⟨rfl, rfl⟩
end
theorem pad_pad (l : List UInt8) (h : l.length ≤ 16) : pad (pad l) = pad l := by
  have := pad_len l h
  unfold pad at this ⊢
  rw [this]
  simp
theorem pad_le8_len (h : Nat) : (pad (le8 h)).length = 16 := pad_len _ (by rw [le8, le_len]; omega)
end Go.Proofs.YtolaojkcofbkhaaGreat
