/- The document's text of a block: bytes and noughts behind them; what Overwrite answers to a wrong call. -/
import Derived.Test.YtdgcoipflenlgaaDvCrash
namespace Go.Proofs.Ytdgcoipflenlgaa
open Go.RowKit

theorem dstr_app (a b : List UInt8) : str a ++ str b = str (a ++ b) := ByteArray.mk_append_mk a b
theorem full_c (l : List UInt8) (w : World) (hl : l.length ≤ 16) :
    Calls Try.prog 27 #[.string (str l)] w fun e w' => e = .returned (.string (str (pad l))) ∧ w = w' := by
  have HL := hid hl
  clear hl
  go_enter Try.func27, Try.ntmps27
  go_wp2_with fail
  go_loopw [0] (fun v wr => ∃ m : Nat, v = .string (str (l ++ List.replicate m 0)) ∧ Hid (l.length + m ≤ 16) ∧ w = wr) (fun v _ => match v with | .string s => 16 - s.size | _ => 0)
  case atStart => exact ⟨0, by simp, hid (by simpa using HL.out), rfl⟩
  case round =>
    obtain ⟨m, rfl, hm, rfl⟩ := hrel
    have hsz : (str (l ++ List.replicate m 0)).size = l.length + m := by rw [str_size]; simp
    rcases Nat.lt_or_ge (l.length + m) 16 with h | h
    · have e1 : decide (((str (l ++ List.replicate m 0)).size : Int) < 16) = true := by rw [hsz]; simp; omega
      have e2 : decide ((str (l ++ List.replicate m 0)).size < 16) = true := by rw [hsz]; simp; omega
      have k1 : ¬ 9223372036854775807 < (str (l ++ List.replicate m 0)).size + 1 := by rw [hsz]; omega
      have hap : str (l ++ List.replicate m 0) ++ (⟨#[0]⟩ : ByteArray) = str (l ++ List.replicate (m + 1) 0) := by
        rw [show (⟨#[0]⟩ : ByteArray) = str [0] from rfl, dstr_app, List.append_assoc, List.replicate_succ']
      have hsz2 : (str (l ++ List.replicate (m + 1) 0)).size = l.length + (m + 1) := by rw [str_size]; simp
      generalize ht2 : str (l ++ List.replicate (m + 1) 0) = t2 at *
      generalize str (l ++ List.replicate m 0) = t1 at *
      have H1 := hid hsz
      have H2 := hid hsz2
      have HT := hid ht2
      clear hsz hsz2 ht2
      go_wp2
      refine ⟨⟨m + 1, congrArg Value.string HT.out.symm, hid (by omega), by first | trivial | rfl⟩, ?_⟩
      show 16 - t2.size < 16 - t1.size
      rw [H1.out, H2.out]
      omega
    · have hp : str (l ++ List.replicate m 0) = str (pad l) := by
        have : m = 16 - l.length := by have := hm.out; omega
        rw [this]
        rfl
      have e1 : decide (((str (l ++ List.replicate m 0)).size : Int) < 16) = false := by rw [hsz]; simp; omega
      have e2 : decide ((str (l ++ List.replicate m 0)).size < 16) = false := by rw [hsz]; simp; omega
      rw [hp] at e1 e2 ⊢
      clear hsz hp
      go_wp2
      go_ret
      exact ⟨rfl, rfl⟩

theorem over_nil (w : World) (i : Int) (A : Option Addr) (n c : Nat) :
    Calls Try.prog 21 #[.pointer none, .int .i64 i, .slice A n c] w fun e w' => e = .returned (.int .i64 1) ∧ Below w.heap.size w w' := by
  go_enter Try.func21, Try.ntmps21
  go_wp2_with fail
  refine (wrong_nil _ i _ _ _).mono ?_
  rintro e w' ⟨rfl, rfl⟩
  go_wp2
  go_ret
  exact ⟨rfl, (Below.refl _ _).alloc (Nat.le_refl _) _⟩
theorem over_bad (w : World) (F : Nat → Prop) (g : Nat) (s : St) (h : Dev w F g s) (i : Int) (A : Option Addr) (n c : Nat) (hb : bad s i n) :
    Calls Try.prog 21 #[.pointer (some ⟨g, 0, none⟩), .int .i64 i, .slice A n c] w fun e w' => e = .returned (.int .i64 2) ∧ Below w.heap.size w w' := by
  have hbel : ∀ o, Below w.heap.size w (w.alloc o) := fun o => (Below.refl _ _).alloc (Nat.le_refl _) _
  have hw := fun o => wrong_bad (w.alloc o) F g s (h.bel (hbel o)) i A n c hb
  clear h hb
  go_enter Try.func21, Try.ntmps21
  go_wp2_with fail
  refine (hw _).mono ?_
  rintro e w' ⟨rfl, rfl⟩
  go_wp2
  go_ret
  exact ⟨rfl, hbel _⟩
end Go.Proofs.Ytdgcoipflenlgaa
