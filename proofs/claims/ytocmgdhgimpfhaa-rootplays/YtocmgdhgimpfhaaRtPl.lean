/- A device, a vault and a cell, and the document's, side by side; calls without one of them. -/
import Derived.Test.YtocmgdhgimpfhaaRtGet
import Derived.Test.YtocmgdhgimpfhaaRtR
import Derived.Test.YtocmgdhgimpfhaaRtFirst
namespace Go.Proofs.Ytocmgdhgimpfhaa
open Go.RowKit

def AB (gd gv gc ge gw gz : Nat) (d : St) (v : Va) (c : Ce) (d' : St) (t : Va) (c' : Ce) : Ob := (TC gd d gv v gc c).and (TR ge d' gw t gz c')
section
variable {w wr : World} {gd gv gc ge gw gz : Nat} {d d' : St} {v t : Va} {c c' : Ce} {X : Nat → Prop}
theorem AB.ok (gd gv gc ge gw gz : Nat) (d : St) (v : Va) (c : Ce) (d' : St) (t : Va) (c' : Ce) : (AB gd gv gc ge gw gz d v c d' t c').Ok := (TC.ok _ _ _ _ _ _).and (TR.ok _ _ _ _ _ _)
theorem foc_a (ge : Nat) (d' : St) (gw : Nat) (t : Va) (gz : Nat) (c' : Ce) : Foc fun P => P.and (TR ge d' gw t gz c') := Foc.one Foc.self (TR.ok _ _ _ _ _ _)
theorem foc_b (gd : Nat) (d : St) (gv : Nat) (v : Va) (gc : Nat) (c : Ce) : Foc fun P => (TC gd d gv v gc c).and P := Foc.two Foc.self (TC.ok _ _ _ _ _ _)
theorem b_put (h : On w (AB gd gv gc ge gw gz d v c d' t c') wr X) (A : Option Addr) (n k : Nat) (l : List UInt8) (hr : Bts wr 0 wr.heap.size A n l) (hW : d.W.length ≤ 50000) (hL : v.L.length ≤ 500000) (hv : c.ver ≤ 500000) :
    Calls Try.prog 11 #[.pointer (some ⟨gd, 0, none⟩), .pointer (some ⟨gv, 0, none⟩), .pointer (some ⟨gc, 0, none⟩), .slice A n k] wr fun e w' => e = .returned (.int .i64 (ptE d v c l.length)) ∧ On w (AB gd gv gc ge gw gz (ptD d v c l.length) (ptV d v c l) (ptC d v c l.length) d' t c') w' X ∧ Stay X wr w' :=
  put_on (foc_a ge d' gw t gz c') (fun _ h => h.and (TR.ok _ _ _ _ _ _)) h A n k l hr hW hL hv
theorem b_rput (h : On w (AB gd gv gc ge gw gz d v c d' t c') wr X) (l : List UInt8) (hW : d'.W.length ≤ 50000) (hL : t.L.length ≤ 500000) (hG : t.G.length ≤ 500000) (hv : c'.ver ≤ 500000) :
    Calls Try.prog 12 #[.pointer (some ⟨ge, 0, none⟩), .pointer (some ⟨gw, 0, none⟩), .pointer (some ⟨gz, 0, none⟩), .string (str l)] wr fun e w' => e = .returned (.int .i64 (ptE d' t c' l.length)) ∧ On w (AB gd gv gc ge gw gz d v c (ptD d' t c' l.length) (ptV d' t c' l) (ptC d' t c' l.length)) w' X ∧ Stay X wr w' :=
  rput_on (foc_b gd d gv v gc c) h l hW hL hG hv
theorem b_get (h : On w (AB gd gv gc ge gw gz d v c d' t c') wr X) (hv : c.ver ≤ 500000) (hm : c.mark ≤ 600000) :
    Calls Try.prog 25 #[.pointer (some ⟨gd, 0, none⟩), .pointer (some ⟨gv, 0, none⟩), .pointer (some ⟨gc, 0, none⟩)] wr fun e w' => ∃ A n k, e = .returned (.tuple #[.slice A n k, .int .i64 (gtE d v c)]) ∧ w'.ownsRow wr.heap.size 5 1 (.slice A n k) n (bs (gtB d v c)) ∧ n ≤ 65536 ∧ Below wr.heap.size wr w' :=
  get_on (foc_a ge d' gw t gz c') (fun _ h => h.and (TR.ok _ _ _ _ _ _)) h hv hm
theorem b_rget (h : On w (AB gd gv gc ge gw gz d v c d' t c') wr X) (hW : d'.W.length ≤ 1000000) (hG : t.G.length ≤ 1000000) (hL : t.L.length ≤ 1000000) (hv : c'.ver ≤ 500000) (hm : c'.mark ≤ 600000) :
    Calls Try.prog 26 #[.pointer (some ⟨ge, 0, none⟩), .pointer (some ⟨gw, 0, none⟩), .pointer (some ⟨gz, 0, none⟩)] wr fun e w' => e = .returned (.tuple #[.string (str (gtB d' t c')), .int .i64 (gtE d' t c')]) ∧ Below wr.heap.size wr w' :=
  rget_on (foc_b gd d gv v gc c) (fun _ h => (TC.ok _ _ _ _ _ _).and h) h hW hG hL hv hm
theorem b_over (h : On w (AB gd gv gc ge gw gz d v c d' t c') wr X) (i : Int) (A : Option Addr) (n k : Nat) (l : List UInt8) (hr : Bts wr 0 wr.heap.size A n l) (hW : d.W.length ≤ 100000) :
    Calls Try.prog 17 #[.pointer (some ⟨gd, 0, none⟩), .int .i64 i, .slice A n k] wr fun e w' => e = .returned (.int .i64 (ovE d i l.length)) ∧ On w (AB gd gv gc ge gw gz (ovS d i l) v c d' t c') w' X ∧ Stay X wr w' :=
  dover_on ((foc_a ge d' gw t gz c').comp (tc_d gv v gc c)) h i A n k l hr hW
theorem b_rover (h : On w (AB gd gv gc ge gw gz d v c d' t c') wr X) (i : Int) (l : List UInt8) (hW : d'.W.length ≤ 100000) :
    Calls Try.prog 18 #[.pointer (some ⟨ge, 0, none⟩), .int .i64 i, .string (str l)] wr fun e w' => e = .returned (.int .i64 (ovE d' i l.length)) ∧ On w (AB gd gv gc ge gw gz d v c (ovS d' i l) t c') w' X ∧ Stay X wr w' :=
  rdover_on ((foc_b gd d gv v gc c).comp (tr_d gw t gz c')) h i l hW
theorem b_write (h : On w (AB gd gv gc ge gw gz d v c d' t c') wr X) (i : Int) (A : Option Addr) (n k : Nat) (l : List UInt8) (hr : Bts wr 0 w.heap.size A n l) (hW : d.W.length ≤ 100000) :
    Calls Try.prog 21 #[.pointer (some ⟨gd, 0, none⟩), .int .i64 i, .slice A n k] wr fun e w' => e = .returned (.int .i64 (wrE d i l.length)) ∧ On w (AB gd gv gc ge gw gz (wrS d i l) v c d' t c') w' X ∧ Stay X wr w' :=
  dwrite_on ((foc_a ge d' gw t gz c').comp (tc_d gv v gc c)) h i A n k l (hr.wide (Nat.le_refl _) h.below.size) (fun h0 x hx => .inr (Bts.lt hr h0 x hx)) hW
theorem b_rwrite (h : On w (AB gd gv gc ge gw gz d v c d' t c') wr X) (i : Int) (l : List UInt8) (hW : d'.W.length ≤ 100000) :
    Calls Try.prog 22 #[.pointer (some ⟨ge, 0, none⟩), .int .i64 i, .string (str l)] wr fun e w' => e = .returned (.int .i64 (wrE d' i l.length)) ∧ On w (AB gd gv gc ge gw gz d v c (wrS d' i l) t c') w' X ∧ Stay X wr w' :=
  rdwrite_on ((foc_b gd d gv v gc c).comp (tr_d gw t gz c')) h i l hW
theorem b_dread (h : On w (AB gd gv gc ge gw gz d v c d' t c') wr X) (i : Int) :
    Calls Try.prog 19 #[.pointer (some ⟨gd, 0, none⟩), .int .i64 i] wr fun e w' => ∃ A n k, e = .returned (.tuple #[.slice A n k, .int .i64 (rdE d i)]) ∧ w'.ownsRow wr.heap.size 5 1 (.slice A n k) n (bs (rdB d i)) ∧ n ≤ 16 ∧ Below wr.heap.size wr w' :=
  dread_on ((foc_a ge d' gw t gz c').comp (tc_d gv v gc c)) h i
theorem b_rdread (h : On w (AB gd gv gc ge gw gz d v c d' t c') wr X) (i : Int) (hW : d'.W.length ≤ 1000000) :
    Calls Try.prog 20 #[.pointer (some ⟨ge, 0, none⟩), .int .i64 i] wr fun e w' => e = .returned (.tuple #[.string (str (rdB d' i)), .int .i64 (rdE d' i)]) ∧ wr = w' :=
  rdread_on ((foc_b gd d gv v gc c).comp (tr_d gw t gz c')) h i hW
theorem b_crash (h : On w (AB gd gv gc ge gw gz d v c d' t c') wr X) (KA : Option Addr) (kn kc : Nat) (keep : List Bool) (hk : Lst wr 0 w.heap.size KA kn (keep.map .bool)) (hW : d.W.length ≤ 1000000) :
    Calls Try.prog 15 #[.pointer (some ⟨gd, 0, none⟩), .slice KA kn kc] wr fun e w' => e = .returned (.tuple #[]) ∧ On w (AB gd gv gc ge gw gz (d.crash keep) v c d' t c') w' X ∧ Stay X wr w' :=
  dcrash_on ((foc_a ge d' gw t gz c').comp (tc_d gv v gc c)) h KA kn kc keep (hk.wide (Nat.le_refl _) h.below.size) (fun h0 x hx => .inr (by obtain ⟨g, off, rfl, _, h3, _⟩ := hk.2 h0; simp at hx; omega)) hW
theorem b_rcrash (h : On w (AB gd gv gc ge gw gz d v c d' t c') wr X) (KA : Option Addr) (kn kc : Nat) (keep : List Bool) (hk : Lst wr 0 w.heap.size KA kn (keep.map .bool)) (hW : d'.W.length ≤ 1000000) :
    Calls Try.prog 16 #[.pointer (some ⟨ge, 0, none⟩), .slice KA kn kc] wr fun e w' => e = .returned (.tuple #[]) ∧ On w (AB gd gv gc ge gw gz d v c (d'.crash keep) t c') w' X ∧ Stay X wr w' :=
  rdcrash_on ((foc_b gd d gv v gc c).comp (tr_d gw t gz c')) h KA kn kc keep (hk.wide (Nat.le_refl _) h.below.size) (fun h0 x hx => .inr (by obtain ⟨g, off, rfl, _, h3, _⟩ := hk.2 h0; simp at hx; omega)) hW
theorem b_limit (h : On w (AB gd gv gc ge gw gz d v c d' t c') wr X) (i : Int) (hi : i ≤ 9223372036854775807) :
    Calls Try.prog 13 #[.pointer (some ⟨gd, 0, none⟩), .int .i64 i] wr fun e w' => e = .returned (.tuple #[]) ∧ On w (AB gd gv gc ge gw gz (d.bound i) v c d' t c') w' X ∧ Stay X wr w' :=
  dlimit_on ((foc_a ge d' gw t gz c').comp (tc_d gv v gc c)) h i hi
theorem b_rbound (h : On w (AB gd gv gc ge gw gz d v c d' t c') wr X) (i : Int) (hi : i ≤ 9223372036854775807) :
    Calls Try.prog 14 #[.pointer (some ⟨ge, 0, none⟩), .int .i64 i] wr fun e w' => e = .returned (.tuple #[]) ∧ On w (AB gd gv gc ge gw gz d v c (d'.bound i) t c') w' X ∧ Stay X wr w' :=
  rdbound_on ((foc_b gd d gv v gc c).comp (tr_d gw t gz c')) h i hi
def k100 : Ky := ⟨1, 0, 0⟩
theorem k100_wf : k100.wf := by unfold Ky.wf k100; decide
theorem b_seal (h : On w (AB gd gv gc ge gw gz d v c d' t c') wr X) (hL : v.L.length ≤ 1000000) :
    Calls Try.prog 23 #[.pointer (some ⟨gv, 0, none⟩), .agg #[.int .i64 1, .int .i64 0, .int .i64 0], .string ⟨#[]⟩, .slice none 0 0] wr fun e w' => e = .returned (.tuple #[.int .u64 (seH v k100 0 : Int), .int .i64 (seE v k100 0)]) ∧ On w (AB gd gv gc ge gw gz d (seS v k100 [] []) c d' t c') w' X ∧ Stay X wr w' :=
  vseal_on ((foc_a ge d' gw t gz c').comp (tc_v gd d gc c)) h k100 k100_wf [] none 0 0 [] (Bts.nil _ _ _ _) hL
theorem b_rseal (h : On w (AB gd gv gc ge gw gz d v c d' t c') wr X) (hG : t.G.length ≤ 1000000) (hL : t.L.length ≤ 1000000) :
    Calls Try.prog 24 #[.pointer (some ⟨gw, 0, none⟩), .agg #[.int .i64 1, .int .i64 0, .int .i64 0], .string ⟨#[]⟩, .string ⟨#[]⟩] wr fun e w' => e = .returned (.tuple #[.int .u64 (seH t k100 0 : Int), .int .i64 (seE t k100 0)]) ∧ On w (AB gd gv gc ge gw gz d v c d' (seS t k100 [] []) c') w' X ∧ Stay X wr w' :=
  rvseal_on ((foc_b gd d gv v gc c).comp (tr_v ge d' gz c')) h k100 [] [] hG hL
theorem b_ver (h : On w (AB gd gv gc ge gw gz d v c d' t c') wr X) :
    Calls Try.prog 27 #[.pointer (some ⟨gc, 0, none⟩)] wr fun e w' => e = .returned (.int .i64 (c.ver : Int)) ∧ wr = w' :=
  cver_c ((foc_a ge d' gw t gz c').comp (tc_c gd d gv v)) h
theorem b_rver (h : On w (AB gd gv gc ge gw gz d v c d' t c') wr X) : wr.cell? ⟨gz, 0, none⟩ = some (.int .i64 (c'.ver : Int)) :=
  (ce_cells (ce_at ((foc_b gd d gv v gc c).comp (tr_c ge d' gw t)) h).1).1
/-- All six, new. -/
theorem ab_new (h : On w (TC gd d gv v gc c) wr X) {w4 : World} {G : Nat → Prop} (hr : RDev w4 G ge d') (hb : Below wr.heap.size wr w4) (hG : ∀ j, G j → wr.heap.size ≤ j) :
    On w (AB gd gv gc ge w4.heap.size (w4.heap.size + 1) d v c d' Va.new ⟨0, 0⟩) ((w4.alloc (.cells #[.slice none 0 0, .slice none 0 0] 40)).alloc (.cells #[.int .i64 0, .int .i64 0] 43)) X := by
  have hs5 : (w4.alloc (.cells #[.slice none 0 0, .slice none 0 0] 40)).heap.size = w4.heap.size + 1 := by simp
  have hb5 : Below w4.heap.size w4 (w4.alloc (.cells #[.slice none 0 0, .slice none 0 0] 40)) := (Below.refl _ _).alloc (Nat.le_refl _) _
  have hb6 : Below (w4.heap.size + 1) (w4.alloc (.cells #[.slice none 0 0, .slice none 0 0] 40)) ((w4.alloc (.cells #[.slice none 0 0, .slice none 0 0] 40)).alloc (.cells #[.int .i64 0, .int .i64 0] 43)) := (Below.refl _ _).alloc (by omega) _
  have hb46 : Below w4.heap.size w4 ((w4.alloc (.cells #[.slice none 0 0, .slice none 0 0] 40)).alloc (.cells #[.int .i64 0, .int .i64 0] 43)) := hb5.trans (hb6.mono (by omega))
  have hv := RVt.new w4
  have hc := Blk.new (w4.alloc (.cells #[.slice none 0 0, .slice none 0 0] 40)) 43 #[.int .i64 0, .int .i64 0]
  rw [hs5] at hc
  refine h.with_ (TC.ok _ _ _ _ _ _) (Q := TR ge d' w4.heap.size Va.new (w4.heap.size + 1) ⟨0, 0⟩) (G := fun j => (G j ∨ j = w4.heap.size) ∨ j = w4.heap.size + 1) ⟨fun j => G j ∨ j = w4.heap.size, fun j => j = w4.heap.size + 1, ⟨G, fun j => j = w4.heap.size, hr.bel hb46, hv.keep hb6.size (fun j hj => hb6.block j (by omega)), fun j hj e => ?_, fun _ => Iff.rfl⟩, ⟨hc, fun j => Iff.rfl⟩, fun j hj e => ?_, fun _ => Iff.rfl⟩ (hb.trans (hb46.mono hb.size)) (fun j hj => ?_)
  · have := hr.lt j hj
    omega
  · rcases hj with hj | hj
    · have := hr.lt j hj
      omega
    · omega
  · have := hb.size
    rcases hj with (hj | hj) | hj
    · exact hG j hj
    · omega
    · omega
end
set_option maxRecDepth 100000 in
theorem rtget_nil (w : World) (a b : Addr) : Calls Try.prog 25 #[.pointer (some a), .pointer (some b), .pointer none] w fun e w' => e = .returned (.tuple #[.slice none 0 0, .int .i64 1]) ∧ w = w' := by
  go_enter Try.func25, Try.ntmps25
  go_wp2
  go_ret2
  exact ⟨rfl, rfl⟩
set_option maxRecDepth 100000 in
theorem rtput_nil1 (w : World) (a b : Addr) : Calls Try.prog 11 #[.pointer none, .pointer (some a), .pointer (some b), .slice none 0 0] w fun e w' => e = .returned (.int .i64 1) ∧ w = w' := by
  go_enter Try.func11, Try.ntmps11
  go_wp2
  go_ret
  exact ⟨rfl, rfl⟩
set_option maxRecDepth 100000 in
theorem rtput_nil2 (w : World) (a b : Addr) : Calls Try.prog 11 #[.pointer (some a), .pointer none, .pointer (some b), .slice none 0 0] w fun e w' => e = .returned (.int .i64 1) ∧ w = w' := by
  go_enter Try.func11, Try.ntmps11
  go_wp2
  go_ret
  exact ⟨rfl, rfl⟩
end Go.Proofs.Ytocmgdhgimpfhaa
