/- slices.Chunk over ints, eight at a time: the iterator that it answers, for whatever loop ranges over it. Nothing is assumed. -/
import Derived.Test.YtejmllpffocneaaInRd
import Derived.Test.YtejmllpffocneaaBtD
import Derived.Shelf.RegionOpen
namespace Go.Proofs.Ytejmllpffocneaa
open Go.RowKit Go.Shelf

attribute [local go_sem] Oper.semAt_some

/-- The chunk from place 8 * k on. -/
def chEnc (g off len k : Nat) : Array Value := #[.slice (some ⟨g, off + 8 * k, none⟩) (min 8 (len - 8 * k)) (min 8 (len - 8 * k))]
set_option maxRecDepth 100000 in
set_option maxHeartbeats 1000000 in
theorem chunk_c {w : World} {A : Option Addr} {n c : Nat} : Calls Try.prog 16 #[.slice A n c, .int .i64 8] w fun e w' =>
    e = .returned (.func (.func 32) #[] #[.pointer (some ⟨w.heap.size, 0, none⟩), .pointer (some ⟨w.heap.size + 1, 0, none⟩)]) ∧ w' = (w.alloc (.cells #[.slice A n c] 22)).alloc (.cells #[.int .i64 8] 3) := by
  go_enter Try.func16, Try.ntmps16
  go_wp2
  go_ret
  exact ⟨rfl, rfl⟩
/-- What a round must leave as it was. -/
def Kc (Bs Bn : Nat) (W W' : World) : Prop := W'.heap[Bs]? = W.heap[Bs]? ∧ W'.heap[Bn]? = W.heap[Bn]?
theorem Kc.trans {Bs Bn : Nat} {A B C : World} (h : Kc Bs Bn A B) (g : Kc Bs Bn B C) : Kc Bs Bn A C := ⟨g.1.trans h.1, g.2.trans h.2⟩
theorem Kc.cellS {Bs Bn : Nat} {A B : World} (h : Kc Bs Bn A B) : B.cell? ⟨Bs, 0, none⟩ = A.cell? ⟨Bs, 0, none⟩ := World.cell?_of_block (a := ⟨Bs, 0, none⟩) h.1
theorem Kc.cellN {Bs Bn : Nat} {A B : World} (h : Kc Bs Bn A B) : B.cell? ⟨Bn, 0, none⟩ = A.cell? ⟨Bn, 0, none⟩ := World.cell?_of_block (a := ⟨Bn, 0, none⟩) h.2
set_option maxRecDepth 100000 in
set_option maxHeartbeats 4000000 in
theorem chunk1_in {n : Nat} (hn : 1 ≤ n) (l Bs Bn g off len cap : Nat) (hlc : len ≤ cap) (hlen : len ≤ 1000000) (J Jx : List Nat → World → Prop)
    (hY : ∀ pre x W, J pre W → pre.length < (len + 7) / 8 → YieldAt Fence.wide (n - 1) Try.prog l (chEnc g off len x) W fun e W' =>
      (e = .returned (.bool true) ∧ J (pre ++ [x]) W' ∧ Kc Bs Bn W W') ∨ (e = .returned (.bool false) ∧ Jx (pre ++ [x]) W'))
    (hJd : ∀ pre W, J pre W → J pre W.drew)
    (W : World) (hBs : W.cell? ⟨Bs, 0, none⟩ = some (.slice (some ⟨g, off, none⟩) len cap)) (hBn : W.cell? ⟨Bn, 0, none⟩ = some (.int .i64 8)) (h0 : J [] W) :
    CallsIn Fence.wide n Try.prog 32 #[.func (.yield l) #[] #[], .pointer (some ⟨Bs, 0, none⟩), .pointer (some ⟨Bn, 0, none⟩)] W fun e W' => (∃ v, e = .returned v) ∧
      ((∃ ys, ys = List.range ((len + 7) / 8) ∧ J ys W') ∨ (∃ pre, True ∧ Jx pre W')) := by
  refine callsIn_of_wp Try.func32 rfl trivial ?_ rfl
  simp only [Try.ntmps32, List.size_toArray, List.length_cons, List.length_nil, Nat.reduceAdd, Nat.reduceSub, Array.replicate_succ, Array.replicate_zero, List.push_toArray, List.append_toArray, List.nil_append, List.cons_append]
  gi_wp2
  gi_loopw [4] (fun i wr => ∃ k p : Nat, i = .int .i64 (p : Int) ∧ p = 8 * k ∧ k ≤ (len + 7) / 8 ∧ J (List.range k) wr ∧ Kc Bs Bn W wr)
    (fun i _ => len - (intOf i).toNat)
  case atStart => exact ⟨0, 0, rfl, rfl, Nat.zero_le _, h0, rfl, rfl⟩
  case round =>
    obtain ⟨k, p, rfl, hp, hk, hJs0, hnx0⟩ := hrel
    have hJs := hJd _ _ hJs0
    have hnx : Kc Bs Bn W wr.drew := ⟨hnx0.1, hnx0.2⟩
    have hcs : wr.cell? ⟨Bs, 0, none⟩ = some (.slice (some ⟨g, off, none⟩) len cap) := hnx0.cellS.trans hBs
    have hcn : wr.cell? ⟨Bn, 0, none⟩ = some (.int .i64 8) := hnx0.cellN.trans hBn
    by_cases hlt : p < len
    · have hkK : k < (len + 7) / 8 := by omega
      obtain ⟨fn, tmps, assign, body, hy, hR⟩ := hY (List.range k) k wr.drew hJs (by rw [List.length_range]; exact hkK)
      obtain ⟨m, hm⟩ : ∃ m, m = min 8 (len - p) := ⟨_, rfl⟩
      obtain ⟨q, hq⟩ : ∃ q, q = p + m := ⟨_, rfl⟩
      have e1 : min 8 (len - 8 * k) = q - p := by rw [← hp]; omega
      have hy' : (Instr.yield l #[.slice (some ⟨g, off + p, none⟩) (q - p) (q - p)]).run Try.prog wr.drew = .ok (.round l fn tmps assign body) wr.drew := by
        have := hy
        unfold chEnc at this
        rwa [e1, ← hp] at this
      have p2 : ¬ cap = p := by omega
      have p3 : p ≤ cap := by omega
      have p4 : p ≤ len := by omega
      have P5 : Hid (p ≤ q ∧ q ≤ cap ∧ ¬ q = p) := hid ⟨by omega, by omega, by omega⟩
      have m1 : min (8 : Int) ((len - p : Nat) : Int) = (m : Int) := by omega
      have WQ : Hid (wrap64 ((p : Int) + (m : Int)) = (q : Int)) := hid (by unfold wrap64; omega)
      have WP : Hid (wrap64 ((p : Int) + 8) = ((p + 8 : Nat) : Int)) := hid (by unfold wrap64; omega)
      have HYY := hid hy'
      have lt : decide ((p : Int) < (len : Int)) = true := by simpa using hlt
      have HP := hid hp
      have HK := hid hkK
      have HLT := hid hlt
      clear hm hq hp hy e1 hkK hy' hlt hk
      gi_wp2
      gi_region
      clear m1 p2 p3 p4 lt
      have wq := WQ.out
      obtain ⟨p5, p6, p7⟩ := P5.out
      have hyy := HYY.out
      gi_wp2
      refine hR.mono ?_
      clear wq p5 p6 p7 hyy
      rintro e W3 (⟨rfl, hJ3, hk3⟩ | ⟨rfl, hJx3⟩)
      · have hcn3 : W3.cell? ⟨Bn, 0, none⟩ = some (.int .i64 8) := hk3.cellN.trans hcn
        have wp8 := WP.out
        gi_wp2
        go_roundw
        case rel => exact ⟨k + 1, p + 8, by first | rfl | rw [wp8], by have := HP.out; omega, HK.out, by rw [List.range_succ]; exact hJ3, hnx.trans hk3⟩
        case measure => have := HLT.out; simp [intOf]; omega
      · gi_wp2
        refine bodyPost_ret (results_none rfl _ _ _) rfl ?_
        exact ⟨⟨_, rfl⟩, .inr ⟨_, trivial, hJx3⟩⟩
    · have hkK : k = (len + 7) / 8 := by omega
      have lt : decide ((p : Int) < (len : Int)) = false := by simp; omega
      have lt2 : decide (p < len) = false := by simp; omega
      have HK := hid hkK
      clear hp hk hkK hJs hnx
      gi_wp2
      go_end0
      exact ⟨⟨_, rfl⟩, .inl ⟨_, rfl, by rw [← HK.out]; exact hJs0⟩⟩
/-- What ranges over it: the chunks one by one, or as many as it wants. -/
theorem chunk_stops {n : Nat} (hn : 1 ≤ n) (Bs Bn g off len cap : Nat) (hlc : len ≤ cap) (hlen : len ≤ 1000000) (w : World) (hbs : Bs < w.heap.size) (hbn : Bn < w.heap.size)
    (hBs : w.cell? ⟨Bs, 0, none⟩ = some (.slice (some ⟨g, off, none⟩) len cap)) (hBn : w.cell? ⟨Bn, 0, none⟩ = some (.int .i64 8)) :
    SeqStopsK Fence.wide n Try.prog 32 #[.pointer (some ⟨Bs, 0, none⟩), .pointer (some ⟨Bn, 0, none⟩)] (chEnc g off len) (Kc Bs Bn) (fun ys => ys = List.range ((len + 7) / 8)) (fun _ => True) ((len + 7) / 8) w := fun l J Jx W hW hJ _ hY h0 =>
  chunk1_in hn l Bs Bn g off len cap hlc hlen J Jx hY (fun pre W hp => hJ pre W W.drew none hp ⟨rfl, rfl, rfl, Nat.le_refl _, fun _ _ _ => rfl⟩ (fun r e => by cases e)) W
    ((hW.cell (p := ⟨Bs, 0, none⟩) hbs).trans hBs) ((hW.cell (p := ⟨Bn, 0, none⟩) hbn).trans hBn) h0
end Go.Proofs.Ytejmllpffocneaa
