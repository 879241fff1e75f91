/- Every call of a device and of the document's device, at any arguments, in one word each: the error, the new state; and the two devices side by side. -/
import Derived.Test.YtdgcoipflenlgaaDvRef5
import Derived.Test.YtdgcoipflenlgaaDvPair
import Derived.Deep.DeepCutAuto
import Derived.Deep.CutBlock
namespace Go.Proofs.Ytdgcoipflenlgaa
open Go.RowKit

instance (s : St) (i : Int) (n : Nat) : Decidable (bad s i n) := by unfold bad; exact inferInstance
def rdE (s : St) (i : Int) : Int := if bad s i 0 then 2 else if s.lim = some 0 then 40 else 0
def rdB (s : St) (i : Int) : List UInt8 := if bad s i 0 ∨ s.lim = some 0 then [] else app s.W s.K i.toNat
def caE (s : St) : Int := if s.lim = some 0 then 40 else 0
def wrE (s : St) (i : Int) (n : Nat) : Int := if bad s i n then 2 else caE s
def wrS (s : St) (i : Int) (l : List UInt8) : St := if bad s i l.length ∨ s.lim = some 0 then s else (s.put i.toNat l).dec
def syS (s : St) : St := if s.lim = some 0 then s else s.sync.dec
def beS (s : St) : St := if s.lim = some 0 then s else s.dec
def ovE (s : St) (i : Int) (n : Nat) : Int := if bad s i n then 2 else 0
def ovS (s : St) (i : Int) (l : List UInt8) : St := if bad s i l.length then s else s.over i.toNat l
theorem nbad {s : St} {i : Int} {n : Nat} (h : ¬ bad s i n) : i = ((i.toNat : Nat) : Int) ∧ i.toNat < s.n ∧ n ≤ 16 := by unfold bad at h; omega
theorem wrS_n (s : St) (i : Int) (l : List UInt8) : (wrS s i l).n = s.n := by unfold wrS; split <;> rfl
theorem syS_n (s : St) : (syS s).n = s.n := by unfold syS; split <;> rfl
theorem beS_n (s : St) : (beS s).n = s.n := by unfold beS; split <;> rfl
theorem ovS_n (s : St) (i : Int) (l : List UInt8) : (ovS s i l).n = s.n := by unfold ovS; split <;> rfl
theorem wrS_W (s : St) (i : Int) (l : List UInt8) : (wrS s i l).W.length ≤ s.W.length + 1 := by
  unfold wrS; split
  · omega
  · show (s.W ++ [_]).length ≤ _; simp
theorem syS_W (s : St) : (syS s).W.length ≤ s.W.length + 1 := by
  unfold syS; split
  · omega
  · show ([] : Wr).length ≤ _; simp
theorem beS_W (s : St) : (beS s).W.length ≤ s.W.length + 1 := by
  unfold beS; split
  · omega
  · show s.W.length ≤ _; omega
theorem ovS_W (s : St) (i : Int) (l : List UInt8) : (ovS s i l).W.length ≤ s.W.length + 1 := by
  unfold ovS; split
  · omega
  · have : (s.over i.toNat l).W.length ≤ s.W.length := List.length_filter_le _ _
    omega

theorem Left.same {w : World} {F : Nat → Prop} {g : Nat} {s : St} (h : Dev w F g s) : Left w w F g s := ⟨F, h, Kp.refl _ _, fun _ hj => .inl hj⟩
theorem RLeft.same {w : World} {F : Nat → Prop} {g : Nat} {s : St} (h : RDev w F g s) : RLeft w w F g s := ⟨F, h, Kp.refl _ _, fun _ hj => .inl hj⟩
theorem own_nilrow (w : World) (b : Nat) (e : TypeId) (z : Nat) : w.ownsRow b e z (.slice none 0 0) 0 [] := ⟨by simp, .inl ⟨rfl, rfl⟩⟩

theorem read_any (w : World) (F : Nat → Prop) (g : Nat) (s : St) (h : Dev w F g s) (i : Int) :
    Calls Try.prog 24 #[.pointer (some ⟨g, 0, none⟩), .int .i64 i] w fun e w' => ∃ A n c, e = .returned (.tuple #[.slice A n c, .int .i64 (rdE s i)]) ∧ w'.ownsRow w.heap.size 5 1 (.slice A n c) n (bs (rdB s i)) ∧ n ≤ 16 ∧ Below w.heap.size w w' := by
  by_cases hb : bad s i 0
  · refine (read_bad w F g s h i hb).mono ?_
    rintro e w' ⟨rfl, rfl⟩
    exact ⟨none, 0, 0, by rw [rdE, if_pos hb], by rw [rdB, if_pos (.inl hb)]; exact own_nilrow _ _ _ _, by omega, Below.refl _ _⟩
  · by_cases ho : s.lim = some 0
    · refine (read_off w F g s h i hb ho).mono ?_
      rintro e w' ⟨rfl, rfl⟩
      exact ⟨none, 0, 0, by rw [rdE, if_neg hb, if_pos ho], by rw [rdB, if_pos (.inr ho)]; exact own_nilrow _ _ _ _, by omega, Below.refl _ _⟩
    · obtain ⟨h1, h2, _⟩ := nbad hb
      have := read_c w F g s h i.toNat h2 ho
      rw [← h1] at this
      refine this.mono ?_
      rintro e w' ⟨A, c, rfl, ho', hb'⟩
      exact ⟨A, 16, c, by rw [rdE, if_neg hb, if_neg ho], by rw [rdB, if_neg (by rintro (e | e); exact hb e; exact ho e)]; exact ho', by omega, hb'⟩
theorem rread_any (w : World) (F : Nat → Prop) (g : Nat) (s : St) (h : RDev w F g s) (i : Int) (hW : s.W.length ≤ 1000000) :
    Calls Try.prog 25 #[.pointer (some ⟨g, 0, none⟩), .int .i64 i] w fun e w' => e = .returned (.tuple #[.string (str (rdB s i)), .int .i64 (rdE s i)]) ∧ w = w' := by
  by_cases hb : bad s i 0
  · refine (rread_bad w F g s h i hb).mono ?_
    rintro e w' ⟨rfl, rfl⟩
    exact ⟨by rw [rdE, rdB, if_pos hb, if_pos (.inl hb)], rfl⟩
  · by_cases ho : s.lim = some 0
    · refine (rread_off w F g s h i hb ho).mono ?_
      rintro e w' ⟨rfl, rfl⟩
      exact ⟨by rw [rdE, rdB, if_neg hb, if_pos ho, if_pos (.inr ho)], rfl⟩
    · obtain ⟨h1, h2, _⟩ := nbad hb
      have := rread_c w F g s h i.toNat h2 ho hW
      rw [← h1] at this
      refine this.mono ?_
      rintro e w' ⟨rfl, rfl⟩
      exact ⟨by rw [rdE, rdB, if_neg hb, if_neg ho, if_neg (by rintro (e | e); exact hb e; exact ho e)], rfl⟩
theorem write_any (w : World) (F : Nat → Prop) (g : Nat) (s : St) (h : Dev w F g s) (i : Int) (A : Option Addr) (n c : Nat) (l : List UInt8) (hr : Bts w 0 w.heap.size A n l) (hA : 0 < n → ∀ u, A.map (·.block) = some u → ¬ F u) (hW : s.W.length ≤ 100000) :
    Calls Try.prog 11 #[.pointer (some ⟨g, 0, none⟩), .int .i64 i, .slice A n c] w fun e w' => e = .returned (.int .i64 (wrE s i l.length)) ∧ Left w w' F g (wrS s i l) := by
  have hl := hr.len
  by_cases hb : bad s i n
  · refine (write_bad w F g s h i A n c hb).mono ?_
    rintro e w' ⟨rfl, rfl⟩
    rw [← hl] at hb
    exact ⟨by rw [wrE, if_pos hb], by rw [wrS, if_pos (.inl hb)]; exact .same h⟩
  · by_cases ho : s.lim = some 0
    · refine (write_off w F g s h i A n c hb ho).mono ?_
      rintro e w' ⟨rfl, rfl⟩
      rw [← hl] at hb
      exact ⟨by rw [wrE, caE, if_neg hb, if_pos ho], by rw [wrS, if_pos (.inr ho)]; exact .same h⟩
    · obtain ⟨h1, h2, h3⟩ := nbad hb
      have := write_c w F g s h i.toNat h2 A n c l hr hA h3 ho (by omega)
      rw [← h1] at this
      refine this.mono ?_
      rintro e w' ⟨rfl, hL⟩
      rw [← hl] at hb
      exact ⟨by rw [wrE, caE, if_neg hb, if_neg ho], by rw [wrS, if_neg (by rintro (e | e); exact hb e; exact ho e)]; exact hL⟩
theorem rwrite_any (w : World) (F : Nat → Prop) (g : Nat) (s : St) (h : RDev w F g s) (i : Int) (l : List UInt8) (hW : s.W.length ≤ 100000) :
    Calls Try.prog 12 #[.pointer (some ⟨g, 0, none⟩), .int .i64 i, .string (str l)] w fun e w' => e = .returned (.int .i64 (wrE s i l.length)) ∧ RLeft w w' F g (wrS s i l) := by
  by_cases hb : bad s i l.length
  · refine (rwrite_bad w F g s h i l hb).mono ?_
    rintro e w' ⟨rfl, rfl⟩
    exact ⟨by rw [wrE, if_pos hb], by rw [wrS, if_pos (.inl hb)]; exact .same h⟩
  · by_cases ho : s.lim = some 0
    · refine (rwrite_off w F g s h i l hb ho).mono ?_
      rintro e w' ⟨rfl, rfl⟩
      exact ⟨by rw [wrE, caE, if_neg hb, if_pos ho], by rw [wrS, if_pos (.inr ho)]; exact .same h⟩
    · obtain ⟨h1, h2, h3⟩ := nbad hb
      have := rwrite_c w F g s h i.toNat h2 l h3 ho hW
      rw [← h1] at this
      refine this.mono ?_
      rintro e w' ⟨rfl, hL⟩
      exact ⟨by rw [wrE, caE, if_neg hb, if_neg ho], by rw [wrS, if_neg (by rintro (e | e); exact hb e; exact ho e)]; exact hL⟩
theorem sync_any (w : World) (F : Nat → Prop) (g : Nat) (s : St) (h : Dev w F g s) (hW : s.W.length ≤ 100000) :
    Calls Try.prog 13 #[.pointer (some ⟨g, 0, none⟩)] w fun e w' => e = .returned (.int .i64 (caE s)) ∧ Left w w' F g (syS s) := by
  by_cases ho : s.lim = some 0
  · refine (sync_off w F g s h ho).mono ?_
    rintro e w' ⟨rfl, rfl⟩
    exact ⟨by rw [caE, if_pos ho], by rw [syS, if_pos ho]; exact .same h⟩
  · refine (sync_c w F g s h ho (by omega)).mono ?_
    rintro e w' ⟨rfl, hL⟩
    exact ⟨by rw [caE, if_neg ho], by rw [syS, if_neg ho]; exact hL⟩
theorem rsync_any (w : World) (F : Nat → Prop) (g : Nat) (s : St) (h : RDev w F g s) (hW : s.W.length ≤ 100000) :
    Calls Try.prog 14 #[.pointer (some ⟨g, 0, none⟩)] w fun e w' => e = .returned (.int .i64 (caE s)) ∧ RLeft w w' F g (syS s) := by
  by_cases ho : s.lim = some 0
  · refine (rsync_off w F g s h ho).mono ?_
    rintro e w' ⟨rfl, rfl⟩
    exact ⟨by rw [caE, if_pos ho], by rw [syS, if_pos ho]; exact .same h⟩
  · refine (rsync_c w F g s h ho (by omega)).mono ?_
    rintro e w' ⟨rfl, hL⟩
    exact ⟨by rw [caE, if_neg ho], by rw [syS, if_neg ho]; exact hL⟩
theorem beat_any (w : World) (F : Nat → Prop) (g : Nat) (s : St) (h : Dev w F g s) :
    Calls Try.prog 15 #[.pointer (some ⟨g, 0, none⟩)] w fun e w' => e = .returned (.int .i64 (caE s)) ∧ Left w w' F g (beS s) := by
  by_cases ho : s.lim = some 0
  · refine (beat_off w F g s h ho).mono ?_
    rintro e w' ⟨rfl, rfl⟩
    exact ⟨by rw [caE, if_pos ho], by rw [beS, if_pos ho]; exact .same h⟩
  · refine (beat_on w F g s h ho).mono ?_
    rintro e w' ⟨rfl, hL⟩
    exact ⟨by rw [caE, if_neg ho], by rw [beS, if_neg ho]; exact hL⟩
theorem rbeat_any (w : World) (F : Nat → Prop) (g : Nat) (s : St) (h : RDev w F g s) :
    Calls Try.prog 16 #[.pointer (some ⟨g, 0, none⟩)] w fun e w' => e = .returned (.int .i64 (caE s)) ∧ RLeft w w' F g (beS s) := by
  by_cases ho : s.lim = some 0
  · refine (rbeat_off w F g s h ho).mono ?_
    rintro e w' ⟨rfl, rfl⟩
    exact ⟨by rw [caE, if_pos ho], by rw [beS, if_pos ho]; exact .same h⟩
  · refine (rbeat_on w F g s h ho).mono ?_
    rintro e w' ⟨rfl, hL⟩
    exact ⟨by rw [caE, if_neg ho], by rw [beS, if_neg ho]; exact hL⟩
theorem over_any (w : World) (F : Nat → Prop) (g : Nat) (s : St) (h : Dev w F g s) (i : Int) (A : Option Addr) (n c : Nat) (l : List UInt8) (hr : Bts w 0 w.heap.size A n l) (hW : s.W.length ≤ 100000) :
    Calls Try.prog 21 #[.pointer (some ⟨g, 0, none⟩), .int .i64 i, .slice A n c] w fun e w' => e = .returned (.int .i64 (ovE s i l.length)) ∧ Left w w' F g (ovS s i l) := by
  have hl := hr.len
  by_cases hb : bad s i n
  · refine (over_bad w F g s h i A n c hb).mono ?_
    rintro e w' ⟨rfl, hb'⟩
    rw [← hl] at hb
    exact ⟨by rw [ovE, if_pos hb], by rw [ovS, if_pos hb]; exact ⟨F, h.bel hb', Kp.ofBelow hb', fun _ hj => .inl hj⟩⟩
  · obtain ⟨h1, h2, h3⟩ := nbad hb
    have := over_c w F g s h i.toNat h2 A n c l hr h3 (by omega)
    rw [← h1] at this
    refine this.mono ?_
    rintro e w' ⟨rfl, hL⟩
    rw [← hl] at hb
    exact ⟨by rw [ovE, if_neg hb], by rw [ovS, if_neg hb]; exact hL⟩
theorem rover_any (w : World) (F : Nat → Prop) (g : Nat) (s : St) (h : RDev w F g s) (i : Int) (l : List UInt8) (hW : s.W.length ≤ 100000) :
    Calls Try.prog 22 #[.pointer (some ⟨g, 0, none⟩), .int .i64 i, .string (str l)] w fun e w' => e = .returned (.int .i64 (ovE s i l.length)) ∧ RLeft w w' F g (ovS s i l) := by
  by_cases hb : bad s i l.length
  · refine (rover_bad w F g s h i l hb).mono ?_
    rintro e w' ⟨rfl, rfl⟩
    exact ⟨by rw [ovE, if_pos hb], by rw [ovS, if_pos hb]; exact .same h⟩
  · obtain ⟨h1, h2, h3⟩ := nbad hb
    have := rover_c w F g s h i.toNat h2 l h3 hW
    rw [← h1] at this
    refine this.mono ?_
    rintro e w' ⟨rfl, hL⟩
    exact ⟨by rw [ovE, if_neg hb], by rw [ovS, if_neg hb]; exact hL⟩

/-- A device and the document's, apart, both new since w; the blocks of X are of neither. -/
def Twin (w wr : World) (g e : Nat) (s t : St) (X : Nat → Prop) : Prop := ∃ F G : Nat → Prop, Dev wr F g s ∧ RDev wr G e t ∧ (∀ j, F j → ¬ G j) ∧ (∀ j, F j → w.heap.size ≤ j) ∧ (∀ j, G j → w.heap.size ≤ j) ∧ Below w.heap.size w wr ∧ (∀ x, X x → ¬ F x ∧ ¬ G x ∧ x < wr.heap.size ∧ w.heap.size ≤ x)
section
variable {w wr : World} {g e : Nat} {s t : St} {X : Nat → Prop}
theorem Twin.below (h : Twin w wr g e s t X) : Below w.heap.size w wr := by
  obtain ⟨F, G, _, _, _, _, _, h, _⟩ := h
  exact h
theorem Twin.bel (h : Twin w wr g e s t X) {wr' : World} (hb : Below wr.heap.size wr wr') : Twin w wr' g e s t X := by
  obtain ⟨F, G, h1, h2, h3, h4, h5, h6, h7⟩ := h
  exact ⟨F, G, h1.bel hb, h2.bel hb, h3, h4, h5, h6.trans (hb.mono h6.size), fun x hx => ⟨(h7 x hx).1, (h7 x hx).2.1, Nat.lt_of_lt_of_le (h7 x hx).2.2.1 hb.size, (h7 x hx).2.2.2⟩⟩
theorem Twin.add (h : Twin w wr g e s t X) {w2 : World} (hb : Below wr.heap.size wr w2) (Y : Nat → Prop) (hY : ∀ x, Y x → wr.heap.size ≤ x ∧ x < w2.heap.size) : Twin w w2 g e s t (fun x => X x ∨ Y x) := by
  obtain ⟨F, G, h1, h2, h3, h4, h5, h6, h7⟩ := h
  refine ⟨F, G, h1.bel hb, h2.bel hb, h3, h4, h5, h6.trans (hb.mono h6.size), fun x hx => ?_⟩
  rcases hx with hx | hx
  · exact ⟨(h7 x hx).1, (h7 x hx).2.1, Nat.lt_of_lt_of_le (h7 x hx).2.2.1 hb.size, (h7 x hx).2.2.2⟩
  · have := hY x hx
    have := h6.size
    exact ⟨fun e => by have := h1.lt x e; omega, fun e => by have := h2.lt x e; omega, by omega, by omega⟩
theorem Twin.less (h : Twin w wr g e s t X) {Y : Nat → Prop} (hY : ∀ x, Y x → X x) : Twin w wr g e s t Y := by
  obtain ⟨F, G, h1, h2, h3, h4, h5, h6, h7⟩ := h
  exact ⟨F, G, h1, h2, h3, h4, h5, h6, fun x hx => h7 x (hY x hx)⟩
theorem Twin.set (h : Twin w wr g e s t X) {v : Nat} (hv : X v) (o : Nat) (u : Value) : Twin w (wr.setCell ⟨v, o, none⟩ u) g e s t X := by
  obtain ⟨F, G, h1, h2, h3, h4, h5, h6, h7⟩ := h
  have hg := grown_setCell wr v o u
  obtain ⟨a1, a2, a3, a4⟩ := h7 v hv
  exact ⟨F, G, h1.keep hg.size fun j hj => hg.block j (h1.lt j hj) (fun e => a1 (by injection e with e; rw [← e]; exact hj)), h2.keep hg.size fun j hj => hg.block j (h2.lt j hj) (fun e => a2 (by injection e with e; rw [← e]; exact hj)), h3, h4, h5, h6.grown hg h6.size (fun k hk => by injection hk with hk; omega), fun x hx => ⟨(h7 x hx).1, (h7 x hx).2.1, Nat.lt_of_lt_of_le (h7 x hx).2.2.1 hg.size, (h7 x hx).2.2.2⟩⟩
theorem Twin.lt (h : Twin w wr g e s t X) {x : Nat} (hx : X x) : x < wr.heap.size := by
  obtain ⟨F, G, h1, h2, h3, h4, h5, h6, h7⟩ := h
  exact (h7 x hx).2.2.1
theorem Twin.one (h : Twin w wr g e s t X) : ∃ F, Dev wr F g s ∧ (∀ j, F j → w.heap.size ≤ j) ∧ (∀ x, X x → ¬ F x) ∧ ∀ wr' s', Left wr wr' F g s' → Twin w wr' g e s' t X ∧ wr.heap.size ≤ wr'.heap.size ∧ ∀ x, X x → wr'.heap[x]? = wr.heap[x]? := by
  obtain ⟨F, G, h1, h2, h3, h4, h5, h6, h7⟩ := h
  refine ⟨F, h1, h4, fun x hx => (h7 x hx).1, fun wr' s' hL => ?_⟩
  obtain ⟨F', hd, hk, hF'⟩ := hL
  refine ⟨⟨F', G, hd, h2.kp hk fun j hj e => h3 j e hj, fun j hj hg => ?_, fun j hj => ?_, h5, h6.trans (hk.below h4 h6.size), fun x hx => ?_⟩, hk.size, fun x hx => hk.block x (h7 x hx).2.2.1 (h7 x hx).1⟩
  · rcases hF' j hj with e | e
    · exact h3 j e hg
    · have := h2.lt j hg; omega
  · rcases hF' j hj with e | e
    · exact h4 j e
    · have := h6.size; omega
  · obtain ⟨a1, a2, a3, a4⟩ := h7 x hx
    exact ⟨fun e => by rcases hF' x e with e | e; exact a1 e; omega, a2, Nat.lt_of_lt_of_le a3 hk.size, a4⟩
theorem Twin.two (h : Twin w wr g e s t X) : ∃ G, RDev wr G e t ∧ (∀ j, G j → w.heap.size ≤ j) ∧ (∀ x, X x → ¬ G x) ∧ ∀ wr' t', RLeft wr wr' G e t' → Twin w wr' g e s t' X ∧ wr.heap.size ≤ wr'.heap.size ∧ ∀ x, X x → wr'.heap[x]? = wr.heap[x]? := by
  obtain ⟨F, G, h1, h2, h3, h4, h5, h6, h7⟩ := h
  refine ⟨G, h2, h5, fun x hx => (h7 x hx).2.1, fun wr' s' hL => ?_⟩
  obtain ⟨G', hd, hk, hG'⟩ := hL
  refine ⟨⟨F, G', h1.kp hk fun j hj e => h3 j hj e, hd, fun j hj hg => ?_, h4, fun j hj => ?_, h6.trans (hk.below h5 h6.size), fun x hx => ?_⟩, hk.size, fun x hx => hk.block x (h7 x hx).2.2.1 (h7 x hx).2.1⟩
  · rcases hG' j hg with e | e
    · exact h3 j hj e
    · have := h1.lt j hj; omega
  · rcases hG' j hj with e | e
    · exact h5 j e
    · have := h6.size; omega
  · obtain ⟨a1, a2, a3, a4⟩ := h7 x hx
    exact ⟨a1, fun e => by rcases hG' x e with e | e; exact a2 e; omega, Nat.lt_of_lt_of_le a3 hk.size, a4⟩
end
end Go.Proofs.Ytdgcoipflenlgaa
