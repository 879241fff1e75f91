import Derived.Test.YtolaojkcofbkhaaGreatPgDf
namespace Go.Proofs.YtolaojkcofbkhaaGreat
open Go.RowKit
structure Ce where
 ver : Nat
 mark : Nat
def rtP (c : Ce) : Pg := ⟨⟨0, 0, 0⟩, (c.mark : Int), (c.ver : Int)⟩
def rtI (c : Ce) : Int := ((c.ver % 2 : Nat) : Int)
def nxt (v : Va) (c : Ce) : Ce := ⟨c.ver + 1, v.L.length + 1⟩
def ptE (d : St) (v : Va) (c : Ce) (n : Nat) : Int := if pwE d v (rtI (nxt v c)) (rtP (nxt v c)) n ≠ 0 then pwE d v (rtI (nxt v c)) (rtP (nxt v c)) n else caE (syS (pwD d v (rtI (nxt v c)) (rtP (nxt v c)) n))
def ptD (d : St) (v : Va) (c : Ce) (n : Nat) : St := if pwE d v (rtI (nxt v c)) (rtP (nxt v c)) n ≠ 0 then pwD d v (rtI (nxt v c)) (rtP (nxt v c)) n else beS (syS (pwD d v (rtI (nxt v c)) (rtP (nxt v c)) n))
def ptV (d : St) (v : Va) (c : Ce) (l : List UInt8) : Va := pwV d v (rtI (nxt v c)) (rtP (nxt v c)) l
def ptC (d : St) (v : Va) (c : Ce) (n : Nat) : Ce := if ptE d v c n = 0 then nxt v c else c
def gtE (d : St) (v : Va) (c : Ce) : Int := if c.ver = 0 then 90 else prE d v (rtI c) (rtP c)
def gtB (d : St) (v : Va) (c : Ce) : List UInt8 := if c.ver = 0 then [] else prB d v (rtI c) (rtP c)
theorem rtP_wf {c : Ce} (h1 : c.ver ≤ 1000000000) (h2 : c.mark ≤ 1000000000) : (rtP c).wf := by
 unfold rtP Pg.wf Ky.wf i64ok
 refine ⟨⟨⟨?_, ?_⟩, ⟨?_, ?_⟩, ?_, ?_⟩, ⟨?_, ?_⟩, ?_, ?_⟩ <;> dsimp only <;> omega
theorem rtI_ok (c : Ce) : i64ok (rtI c) := by unfold rtI i64ok; omega
theorem caE_off {d : St} (h : caE d ≠ 0) : d.lim = some 0 := by
 unfold caE at h
 split at h
 · assumption
 · exact absurd rfl h
theorem syS_off {d : St} (h : caE d ≠ 0) : syS d = d := by rw [syS, if_pos (caE_off h)]
theorem beS_off {d : St} (h : caE d ≠ 0) : beS d = d := by rw [beS, if_pos (caE_off h)]
theorem ptD_n (d : St) (v : Va) (c : Ce) (n : Nat) : (ptD d v c n).n = d.n := by
 unfold ptD
 split
 · exact pwD_n _ _ _ _ _
 · rw [beS_n, syS_n, pwD_n]
theorem ptD_W (d : St) (v : Va) (c : Ce) (n : Nat) : (ptD d v c n).W.length ≤ d.W.length + 1 := by
 have h1 := pwD_W d v (rtI (nxt v c)) (rtP (nxt v c)) n
 unfold ptD
 split
 · exact h1
 · generalize pwD d v (rtI (nxt v c)) (rtP (nxt v c)) n = e at *
   have h2 : (syS e).W.length ≤ e.W.length := by
    unfold syS
    split
    · exact nl _
    · exact Nat.zero_le _
   have h3 : (beS (syS e)).W.length ≤ (syS e).W.length := by
    unfold beS
    split
    · exact nl _
    · exact nl _
   omega
theorem ptV_L (d : St) (v : Va) (c : Ce) (l : List UInt8) : (ptV d v c l).L.length ≤ v.L.length + 1 ∧ (ptV d v c l).G = v.G := pwV_L _ _ _ _ _
theorem ptC_ver (d : St) (v : Va) (c : Ce) (n : Nat) : (ptC d v c n).ver ≤ c.ver + 1 ∧ ((ptC d v c n).mark ≤ c.mark ∨ (ptC d v c n).mark ≤ v.L.length + 1) := by
 unfold ptC
 split
 · exact ⟨nl _, .inr (nl _)⟩
 · exact ⟨by omega, .inl (nl _)⟩
end Go.Proofs.YtolaojkcofbkhaaGreat
