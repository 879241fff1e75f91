import Derived.Test.YtolaojkcofbkhaaGreatPgRe
namespace Go.Proofs.YtolaojkcofbkhaaGreat
open Go.RowKit
theorem Foc.comp {C D : Ob → Ob} (hC : Foc C) (hD : Foc D) : Foc fun P => C (D P) := by
 intro P w F h
 obtain ⟨A, h1, h2, h3⟩ := hC (D P) w F h
 obtain ⟨B, k1, k2, k3⟩ := hD P w A h1
 exact ⟨B, k1, fun j hj => h2 j (k2 j hj), fun w' P' hL => h3 w' (D P') (k3 w' P' hL)⟩
def Stay (X : Nat → Prop) (w w' : World) : Prop := w.heap.size ≤ w'.heap.size ∧ ∀ x, X x → w'.heap[x]? = w.heap[x]?
theorem Stay.trans {X : Nat → Prop} {a b c : World} (h : Stay X a b) (k : Stay X b c) : Stay X a c := ⟨Nat.le_trans h.1 k.1, fun x hx => (k.2 x hx).trans (h.2 x hx)⟩
theorem Stay.below {X : Nat → Prop} {a b : World} (h : Below a.heap.size a b) (hX : ∀ x, X x → x < a.heap.size) : Stay X a b := ⟨h.size, fun x hx => h.block x (hX x hx)⟩
theorem Stay.less {X Y : Nat → Prop} {a b : World} (h : Stay X a b) (hY : ∀ x, Y x → X x) : Stay Y a b := ⟨h.1, fun x hx => h.2 x (hY x hx)⟩
theorem On.stay {w wr wr' : World} {P : Ob} {X : Nat → Prop} (h : On w P wr X) (hb : Below wr.heap.size wr wr') : Stay X wr wr' := .below hb fun _ hx => h.lt hx
def PV (gd : Nat) (d : St) (gv : Nat) (v : Va) : Ob := (DvO gd d).and (VtO gv v)
theorem PV.ok (gd : Nat) (d : St) (gv : Nat) (v : Va) : (PV gd d gv v).Ok := (DvO.ok gd d).and (VtO.ok gv v)
theorem Foc.dv (gv : Nat) (v : Va) : Foc fun P => P.and (VtO gv v) := Foc.one Foc.self (VtO.ok gv v)
theorem Foc.vt (gd : Nat) (d : St) : Foc fun P => (DvO gd d).and P := Foc.two Foc.self (DvO.ok gd d)
section
variable {C : Ob → Ob} {w wr : World} {gd gv : Nat} {d : St} {v : Va} {X : Nat → Prop}
theorem pread_on (hC : Foc C) (h : On w (C (PV gd d gv v)) wr X) (p : Pg) (hp : p.wf) (i : Int) (hi : i64ok i) :
 Calls Tryz.prog 68 #[.pointer (some ⟨gd, 0, none⟩), .pointer (some ⟨gv, 0, none⟩), .int .i64 i, (.agg #[.int .i64 (p).k.t, .int .i64 (p).k.c, .int .i64 (p).k.e, .int .i64 (p).id, .int .i64 (p).ver])] wr fun e w' => ∃ A n c, e = .returned (.tuple #[.slice A n c, .int .i64 (prE d v i p)]) ∧ w'.ownsRow wr.heap.size 5 1 (.slice A n c) n (bs (prB d v i p)) ∧ n ≤ 65536 ∧ Below wr.heap.size wr w' := by
 obtain ⟨A, ⟨F, G, h1, h2, _, _⟩, _⟩ := h.at_ hC
 exact pread_c wr F G gd gv d v h1 h2 p hp i hi
theorem pwrite_on (hC : Foc C) (h : On w (C (PV gd d gv v)) wr X) (p : Pg) (hp : p.wf) (i : Int) (hi : i64ok i) (A : Option Addr) (n c : Nat) (l : List UInt8) (hr : Bts wr 0 wr.heap.size A n l) (hW : d.W.length ≤ 100000) (hL : v.L.length ≤ 1000000) :
 Calls Tryz.prog 95 #[.pointer (some ⟨gd, 0, none⟩), .pointer (some ⟨gv, 0, none⟩), .int .i64 i, (.agg #[.int .i64 (p).k.t, .int .i64 (p).k.c, .int .i64 (p).k.e, .int .i64 (p).id, .int .i64 (p).ver]), .slice A n c] wr fun e w' => e = .returned (.int .i64 (pwE d v i p l.length)) ∧ On w (C (PV gd (pwD d v i p l.length) gv (pwV d v i p l))) w' X ∧ Stay X wr w' := by
 obtain ⟨F, h1, _, _, hf⟩ := h.at_ hC
 refine (pwrite_c wr F gd gv d v h1 p hp i hi A n c l hr hW hL).mono ?_
 rintro e w' ⟨rfl, hl⟩
 obtain ⟨h2, h3, h4⟩ := hf w' (PV gd (pwD d v i p l.length) gv (pwV d v i p l)) hl
 exact ⟨rfl, h2, h3, h4⟩
theorem dread_on (hC : Foc C) (h : On w (C (DvO gd d)) wr X) (i : Int) :
 Calls Tryz.prog 24 #[.pointer (some ⟨gd, 0, none⟩), .int .i64 i] wr fun e w' => ∃ A n c, e = .returned (.tuple #[.slice A n c, .int .i64 (rdE d i)]) ∧ w'.ownsRow wr.heap.size 5 1 (.slice A n c) n (bs (rdB d i)) ∧ n ≤ 16 ∧ Below wr.heap.size wr w' := by
 obtain ⟨F, h1, _⟩ := h.at_ hC
 exact read_any wr F gd d h1 i
theorem dover_on (hC : Foc C) (h : On w (C (DvO gd d)) wr X) (i : Int) (A : Option Addr) (n c : Nat) (l : List UInt8) (hr : Bts wr 0 wr.heap.size A n l) (hW : d.W.length ≤ 100000) :
 Calls Tryz.prog 22 #[.pointer (some ⟨gd, 0, none⟩), .int .i64 i, .slice A n c] wr fun e w' => e = .returned (.int .i64 (ovE d i l.length)) ∧ On w (C (DvO gd (ovS d i l))) w' X ∧ Stay X wr w' := by
 obtain ⟨F, h1, _, _, hf⟩ := h.at_ hC
 refine (over_any wr F gd d h1 i A n c l hr hW).mono ?_
 rintro e w' ⟨rfl, hl⟩
 obtain ⟨h2, h3, h4⟩ := hf w' (DvO gd (ovS d i l)) hl
 exact ⟨rfl, h2, h3, h4⟩
end
theorem dnew_on (w wr : World) (hb : Below w.heap.size w wr) (n : Nat) (h1 : 1 ≤ n) (h2 : n ≤ 4096) :
 Calls Tryz.prog 12 #[.int .i64 (n : Int)] wr fun e w' => ∃ g, e = .returned (.tuple #[.pointer (some ⟨g, 0, none⟩), .int .i64 0]) ∧ On w (DvO g (St.new n)) w' (fun _ => False) ∧ Below wr.heap.size wr w' := by
 refine (new_c n wr h1 h2).mono ?_
 rintro e w' ⟨g, F, rfl, h3, h4, h5⟩
 exact ⟨g, rfl, On.new hb h3 h4 h5, h4⟩
theorem dnew_onX (w wr : World) (hb : Below w.heap.size w wr) (n : Nat) (h1 : 1 ≤ n) (h2 : n ≤ 4096) (X : Nat → Prop) (hX : ∀ x, X x → x < wr.heap.size ∧ w.heap.size ≤ x) :
 Calls Tryz.prog 12 #[.int .i64 (n : Int)] wr fun e w' => ∃ g, e = .returned (.tuple #[.pointer (some ⟨g, 0, none⟩), .int .i64 0]) ∧ On w (DvO g (St.new n)) w' X ∧ Stay X wr w' := by
 refine (new_c n wr h1 h2).mono ?_
 rintro e w' ⟨g, F, rfl, h3, h4, h5⟩
 exact ⟨g, rfl, ⟨F, h3, fun j hj => Nat.le_trans hb.size (h5 j hj), hb.trans (h4.mono hb.size), fun x hx => ⟨fun e => by have := h5 x e; have := (hX x hx).1; omega, Nat.lt_of_lt_of_le (hX x hx).1 h4.size, (hX x hx).2⟩⟩, .below h4 fun x hx => (hX x hx).1⟩
theorem vnew_on {w wr : World} {gd : Nat} {d : St} {X : Nat → Prop} (h : On w (DvO gd d) wr X) :
 Calls Tryz.prog 13 #[] wr fun e w' => ∃ g, e = .returned (.pointer (some ⟨g, 0, none⟩)) ∧ On w (PV gd d g Va.new) w' X ∧ Stay X wr w' := by
 refine (vnew_c wr).mono ?_
 rintro e w' ⟨g, F, rfl, h3, h4, h5⟩
 exact ⟨g, rfl, h.with_ (DvO.ok gd d) h3 h4 h5, h.stay h4⟩
theorem conv1 (w : World) (C : Array Value) (n c : Nat) : (convert 51 51 (.slice (some ⟨w.heap.size, 0, none⟩) n c)).run Tryz.prog (w.alloc (.cells C 5)) = .ok (.slice (some ⟨w.heap.size, 0, none⟩) n c) (w.alloc (.cells C 5 (C.size, C.size + 1))) :=
 Lib.run_convert_bytes_const (P := Tryz.prog) w 51 5 C n c Tryz.underlying51 Tryz.underlying5
theorem Bts.lit1 (w : World) (e : TypeId) (l : List UInt8) (m : Nat × Nat) : Bts (w.alloc (.cells (bs l).toArray e m)) 0 (w.alloc (.cells (bs l).toArray e m)).heap.size (some ⟨w.heap.size, 0, none⟩) l.length l := (Bts.litM w e l m).wide (Nat.zero_le _) (by simp)
end Go.Proofs.YtolaojkcofbkhaaGreat
