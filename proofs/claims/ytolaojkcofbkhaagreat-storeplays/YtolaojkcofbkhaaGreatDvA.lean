import Derived.Test.YtolaojkcofbkhaaGreatDvD
import Derived.Deep.DeepCutAuto
import Derived.Deep.CutBlock
namespace Go.Proofs.YtolaojkcofbkhaaGreat
open Go.RowKit
def rdE (s : St) (i : Int) : Int := if bad s i 0 then 2 else if s.lim = some 0 then 40 else 0
def rdB (s : St) (i : Int) : List UInt8 := if bad s i 0 ∨ s.lim = some 0 then [] else app s.W s.K i.toNat
def caE (s : St) : Int := if s.lim = some 0 then 40 else 0
def wrE (s : St) (i : Int) (n : Nat) : Int := if bad s i n then 2 else caE s
def wrS (s : St) (i : Int) (l : List UInt8) : St := if bad s i l.length ∨ s.lim = some 0 then s else (s.put i.toNat l).dec
def syS (s : St) : St := if s.lim = some 0 then s else s.sync.dec
def beS (s : St) : St := if s.lim = some 0 then s else s.dec
def ovE (s : St) (i : Int) (n : Nat) : Int := if bad s i n then 2 else 0
def ovS (s : St) (i : Int) (l : List UInt8) : St := if bad s i l.length then s else s.over i.toNat l
theorem nbad {s : St} {i : Int} {n : Nat} (h : ¬ bad s i n) : i = ((i.toNat : Nat) : Int) ∧ i.toNat < s.n ∧ n ≤ 16 := by unfold bad at h; omega
theorem wrS_n (s : St) (i : Int) (l : List UInt8) : (wrS s i l).n = s.n := by unfold wrS; split <;> rfl
theorem syS_n (s : St) : (syS s).n = s.n := by unfold syS; split <;> rfl
theorem beS_n (s : St) : (beS s).n = s.n := by unfold beS; split <;> rfl
theorem ovS_n (s : St) (i : Int) (l : List UInt8) : (ovS s i l).n = s.n := by unfold ovS; split <;> rfl
theorem wrS_W (s : St) (i : Int) (l : List UInt8) : (wrS s i l).W.length ≤ s.W.length + 1 := by
 unfold wrS; split
 · omega
 · show (s.W ++ [_]).length ≤ _; simp
theorem ovS_W (s : St) (i : Int) (l : List UInt8) : (ovS s i l).W.length ≤ s.W.length + 1 := by
 unfold ovS; split
 · omega
 · have : (s.over i.toNat l).W.length ≤ s.W.length := List.length_filter_le _ _
   omega
theorem Left.same {w : World} {F : Nat → Prop} {g : Nat} {s : St} (h : Dev w F g s) : Left w w F g s := ⟨F, h, Kp.refl _ _, fun _ hj => .inl hj⟩
theorem read_any (w : World) (F : Nat → Prop) (g : Nat) (s : St) (h : Dev w F g s) (i : Int) :
 Calls Tryz.prog 24 #[.pointer (some ⟨g, 0, none⟩), .int .i64 i] w fun e w' => ∃ A n c, e = .returned (.tuple #[.slice A n c, .int .i64 (rdE s i)]) ∧ w'.ownsRow w.heap.size 5 1 (.slice A n c) n (bs (rdB s i)) ∧ n ≤ 16 ∧ Below w.heap.size w w' := by
 by_cases hb : bad s i 0
 · refine (read_bad w F g s h i hb).mono ?_
   rintro e w' ⟨rfl, rfl⟩
   exact ⟨none, 0, 0, by rw [rdE, if_pos hb], by rw [rdB, if_pos (.inl hb)]; exact own_nilrow _ _ _ _, by omega, Below.refl _ _⟩
 · by_cases ho : s.lim = some 0
   · refine (read_off w F g s h i hb ho).mono ?_
     rintro e w' ⟨rfl, rfl⟩
     exact ⟨none, 0, 0, by rw [rdE, if_neg hb, if_pos ho], by rw [rdB, if_pos (.inr ho)]; exact own_nilrow _ _ _ _, by omega, Below.refl _ _⟩
   · obtain ⟨h1, h2, _⟩ := nbad hb
     have := read_c w F g s h i.toNat h2 ho
     rw [← h1] at this
     refine this.mono ?_
     rintro e w' ⟨A, c, rfl, ho', hb'⟩
     exact ⟨A, 16, c, by rw [rdE, if_neg hb, if_neg ho], by rw [rdB, if_neg (by rintro (e | e); exact hb e; exact ho e)]; exact ho', by omega, hb'⟩
theorem write_any (w : World) (F : Nat → Prop) (g : Nat) (s : St) (h : Dev w F g s) (i : Int) (A : Option Addr) (n c : Nat) (l : List UInt8) (hr : Bts w 0 w.heap.size A n l) (hA : 0 < n → ∀ u, A.map (·.block) = some u → ¬ F u) (hW : s.W.length ≤ 100000) :
 Calls Tryz.prog 127 #[.pointer (some ⟨g, 0, none⟩), .int .i64 i, .slice A n c] w fun e w' => e = .returned (.int .i64 (wrE s i l.length)) ∧ Left w w' F g (wrS s i l) := by
 have hl := hr.len
 by_cases hb : bad s i n
 · refine (write_bad w F g s h i A n c hb).mono ?_
   rintro e w' ⟨rfl, rfl⟩
   rw [← hl] at hb
   exact ⟨by rw [wrE, if_pos hb], by rw [wrS, if_pos (.inl hb)]; exact .same h⟩
 · by_cases ho : s.lim = some 0
   · refine (write_off w F g s h i A n c hb ho).mono ?_
     rintro e w' ⟨rfl, rfl⟩
     rw [← hl] at hb
     exact ⟨by rw [wrE, caE, if_neg hb, if_pos ho], by rw [wrS, if_pos (.inr ho)]; exact .same h⟩
   · obtain ⟨h1, h2, h3⟩ := nbad hb
     have := write_c w F g s h i.toNat h2 A n c l hr hA h3 ho (by omega)
     rw [← h1] at this
     refine this.mono ?_
     rintro e w' ⟨rfl, hL⟩
     rw [← hl] at hb
     exact ⟨by rw [wrE, caE, if_neg hb, if_neg ho], by rw [wrS, if_neg (by rintro (e | e); exact hb e; exact ho e)]; exact hL⟩
theorem sync_any (w : World) (F : Nat → Prop) (g : Nat) (s : St) (h : Dev w F g s) (hW : s.W.length ≤ 100000) :
 Calls Tryz.prog 129 #[.pointer (some ⟨g, 0, none⟩)] w fun e w' => e = .returned (.int .i64 (caE s)) ∧ Left w w' F g (syS s) := by
 by_cases ho : s.lim = some 0
 · refine (sync_off w F g s h ho).mono ?_
   rintro e w' ⟨rfl, rfl⟩
   exact ⟨by rw [caE, if_pos ho], by rw [syS, if_pos ho]; exact .same h⟩
 · refine (sync_c w F g s h ho (by omega)).mono ?_
   rintro e w' ⟨rfl, hL⟩
   exact ⟨by rw [caE, if_neg ho], by rw [syS, if_neg ho]; exact hL⟩
theorem beat_any (w : World) (F : Nat → Prop) (g : Nat) (s : St) (h : Dev w F g s) :
 Calls Tryz.prog 130 #[.pointer (some ⟨g, 0, none⟩)] w fun e w' => e = .returned (.int .i64 (caE s)) ∧ Left w w' F g (beS s) := by
 by_cases ho : s.lim = some 0
 · refine (beat_off w F g s h ho).mono ?_
   rintro e w' ⟨rfl, rfl⟩
   exact ⟨by rw [caE, if_pos ho], by rw [beS, if_pos ho]; exact .same h⟩
 · refine (beat_on w F g s h ho).mono ?_
   rintro e w' ⟨rfl, hL⟩
   exact ⟨by rw [caE, if_neg ho], by rw [beS, if_neg ho]; exact hL⟩
theorem over_any (w : World) (F : Nat → Prop) (g : Nat) (s : St) (h : Dev w F g s) (i : Int) (A : Option Addr) (n c : Nat) (l : List UInt8) (hr : Bts w 0 w.heap.size A n l) (hW : s.W.length ≤ 100000) :
 Calls Tryz.prog 22 #[.pointer (some ⟨g, 0, none⟩), .int .i64 i, .slice A n c] w fun e w' => e = .returned (.int .i64 (ovE s i l.length)) ∧ Left w w' F g (ovS s i l) := by
 have hl := hr.len
 by_cases hb : bad s i n
 · refine (over_bad w F g s h i A n c hb).mono ?_
   rintro e w' ⟨rfl, hb'⟩
   rw [← hl] at hb
   exact ⟨by rw [ovE, if_pos hb], by rw [ovS, if_pos hb]; exact ⟨F, h.bel hb', Kp.ofBelow hb', fun _ hj => .inl hj⟩⟩
 · obtain ⟨h1, h2, h3⟩ := nbad hb
   have := over_c w F g s h i.toNat h2 A n c l hr h3 (by omega)
   rw [← h1] at this
   refine this.mono ?_
   rintro e w' ⟨rfl, hL⟩
   rw [← hl] at hb
   exact ⟨by rw [ovE, if_neg hb], by rw [ovS, if_neg hb]; exact hL⟩
end Go.Proofs.YtolaojkcofbkhaaGreat
