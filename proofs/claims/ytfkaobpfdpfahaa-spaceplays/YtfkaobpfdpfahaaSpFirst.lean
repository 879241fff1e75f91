/- A map that is new since a world; the law's first call answers true. -/
import Derived.Test.YtfkaobpfdpfahaaSpCopy
namespace Go.Proofs.Ytfkaobpfdpfahaa
open Go.RowKit

/-- A map that came since w; nothing of w has turned. -/
structure MOn (w wr : World) (g k : Nat) (s : Sp) : Prop where
  mp : Mp wr g k s
  bel : Below w.heap.size w wr
  g0 : w.heap.size ≤ g
  k0 : w.heap.size ≤ k
section
variable {w wr wr' : World} {g k : Nat} {s s' : Sp}
theorem MOn.left (h : MOn w wr g k s) (hL : MLeft wr wr' g k s') : MOn w wr' g k s' := ⟨hL.1, h.bel.trans (hL.2.below (B := w.heap.size) (fun j hj => by have := h.k0; omega) h.bel.size), h.g0, h.k0⟩
theorem MOn.go (h : MOn w wr g k s) (hb : Below wr.heap.size wr wr') : MOn w wr' g k s := ⟨h.mp.bel hb, h.bel.trans (hb.mono h.bel.size), h.g0, h.k0⟩
/-- Another block turned. -/
theorem MOn.set (h : MOn w wr g k s) {x : Nat} (hg : x ≠ g) (hk : x ≠ k) (hx : w.heap.size ≤ x) (o : Nat) (u : Value) : MOn w (wr.setCell ⟨x, o, none⟩ u) g k s := by
  have hgr := grown_setCell wr x o u
  exact ⟨h.mp.keep (hgr.block g h.mp.blk.lt (fun e => by injection e with e; exact hg e.symm)) (hgr.block k h.mp.row.lt (fun e => by injection e with e; exact hk e.symm)), h.bel.grown hgr h.bel.size (fun y hy => by injection hy with hy; omega), h.g0, h.k0⟩
end
theorem MOn.new {w w1 w2 : World} {g k : Nat} {s : Sp} (hb : Below w.heap.size w w1) (hm : Mp w2 g k s) (hb2 : Below w1.heap.size w1 w2) (h1 : w1.heap.size ≤ g) (h2 : w1.heap.size ≤ k) : MOn w w2 g k s :=
  ⟨hm, hb.trans (hb2.mono hb.size), Nat.le_trans hb.size h1, Nat.le_trans hb.size h2⟩
theorem MLeft.at_ {w w' : World} {g k x : Nat} {s : Sp} (h : MLeft w w' g k s) (hx : x < w.heap.size) (hk : x ≠ k) : w'.heap[x]? = w.heap[x]? := h.2.block x hx hk

set_option maxRecDepth 20000 in
set_option maxHeartbeats 4000000 in
theorem first_c (w : World) :
    Calls Try.prog 7 #[] w fun e w' => e = .returned (.bool true) ∧ Below w.heap.size w w' := by
  go_enter Try.func7, Try.ntmps7
  go_wp2_with fail
  refine (snew_c 4 2 4 2 rfl rfl w (by decide) (by decide) (by decide)).mono ?_
  rintro e w1 ⟨g, k, rfl, hm, hb, hg, hk⟩
  have H1 : Hid (MOn w w1 g k (Sp.new 4 2)) := hid ⟨hm, hb, hg, hk⟩
  have hc := take_any w1 g k (Sp.new 4 2) hm
  rw [show (Sp.new 4 2).takeN = 2 from rfl, show (Sp.new 4 2).any = true from rfl, show (Sp.new 4 2).take = ⟨[true, true, true, false], 2⟩ from rfl] at hc
  clear hm hb hg hk
  go_wp2_with fail
  refine hc.mono ?_
  rintro e w2 ⟨rfl, hL⟩
  have H2 := hid (H1.out.left hL)
  have hc := take_any w2 g k _ hL.1
  rw [show (Sp.mk [true, true, true, false] 2).takeN = 3 from rfl, show (Sp.mk [true, true, true, false] 2).any = true from rfl, show (Sp.mk [true, true, true, false] 2).take = ⟨[true, true, true, true], 2⟩ from rfl] at hc
  clear hL H1
  go_wp2_with fail
  refine hc.mono ?_
  rintro e w3 ⟨rfl, hL⟩
  have H3 := hid (H2.out.left hL)
  have hc := take_any w3 g k _ hL.1
  rw [show (Sp.mk [true, true, true, true] 2).takeN = 0 from rfl, show (Sp.mk [true, true, true, true] 2).any = false from rfl, show (Sp.mk [true, true, true, true] 2).take = ⟨[true, true, true, true], 2⟩ from rfl] at hc
  clear hL H2
  go_wp2_with fail
  refine hc.mono ?_
  rintro e w4 ⟨rfl, hL⟩
  have H4 := hid (H3.out.left hL)
  have hc := give_any w4 g k _ hL.1 2
  rw [show (Sp.mk [true, true, true, true] 2).gv 2 = true from rfl, show (Sp.mk [true, true, true, true] 2).give 2 = ⟨[true, true, false, true], 2⟩ from rfl] at hc
  clear hL H3
  go_wp2_with fail
  refine hc.mono ?_
  rintro e w5 ⟨rfl, hL⟩
  have H5 := hid (H4.out.left hL)
  have hc := give_any w5 g k _ hL.1 1
  rw [show (Sp.mk [true, true, false, true] 2).gv 1 = false from rfl, show (Sp.mk [true, true, false, true] 2).give 1 = ⟨[true, true, false, true], 2⟩ from rfl] at hc
  clear hL H4
  go_wp2_with fail
  refine hc.mono ?_
  rintro e w6 ⟨rfl, hL⟩
  have H6 := hid (H5.out.left hL)
  have hc := free_c w6 g k _ hL.1
  rw [show (Sp.mk [true, true, false, true] 2).free = 1 from rfl] at hc
  clear hL H5
  go_wp2_with fail
  refine hc.mono ?_
  rintro e w' ⟨rfl, rfl⟩
  have hc := taken_c w6 g k _ H6.out.mp 0
  rw [show (Sp.mk [true, true, false, true] 2).tk 0 = true from rfl] at hc
  go_wp2_with fail
  refine hc.mono ?_
  rintro e w' ⟨rfl, rfl⟩
  clear hc
  go_wp2
  go_ret
  exact ⟨rfl, H6.out.bel⟩
end Go.Proofs.Ytfkaobpfdpfahaa
