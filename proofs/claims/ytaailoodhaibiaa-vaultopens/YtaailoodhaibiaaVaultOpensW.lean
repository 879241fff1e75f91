/- The walk of VaultOpens: for every input the law answers true. -/
import Derived.Test.YtaailoodhaibiaaVtLaw
namespace Go.Proofs.Ytaailoodhaibiaa
open Go.RowKit

def kone : Ky := ⟨1, 0, 0⟩
theorem kone_wf : kone.wf := by unfold Ky.wf kone; decide
def oth : List UInt8 := [111, 116, 104, 101, 114]
/-- n others were sealed. -/
def ov (n : Nat) : Va := ⟨List.replicate n ⟨kone, oth, []⟩, []⟩
theorem ov_len (n : Nat) : (ov n).L.length = n := by simp [ov]
theorem ov_seal (n : Nat) : seS (ov n) kone oth [] = ov (n + 1) := by
  have h1 : ¬ (¬ kone.right ∨ 65536 < ([] : List UInt8).length) := by decide
  have h2 : ¬ kone ∈ (ov n).G := by simp [ov]
  refine ((if_neg h1).trans (if_neg h2)).trans ?_
  simp [ov, List.replicate_succ']
/-- And then one more. -/
def ow (n : Nat) (k : Ky) (b p : List UInt8) : Va := ⟨(ov n).L ++ [⟨k, b, p⟩], []⟩
theorem ow_len (n : Nat) (k : Ky) (b p : List UInt8) : (ow n k b p).L.length = n + 1 := by simp [ow, ov]
theorem ow_seal {n : Nat} {k : Ky} {b p : List UInt8} (hr : k.right) (hp : p.length ≤ 1000) : seE (ov n) k p.length = 0 ∧ seH (ov n) k p.length = n + 1 ∧ seS (ov n) k b p = ow n k b p := by
  have h1 : ¬ (¬ k.right ∨ 65536 < p.length) := by rintro (e | e); exact e hr; omega
  have h2 : ¬ k ∈ (ov n).G := by simp [ov]
  exact ⟨(if_neg h1).trans (if_neg h2), ((if_neg h1).trans (if_neg h2)).trans (by rw [ov_len]), (if_neg h1).trans (if_neg h2)⟩
theorem ow_opX (n : Nat) (k : Ky) (b p : List UInt8) (k' : Ky) (b' : List UInt8) : opX (ow n k b p) k' b' (n + 1) = if k = k' ∧ b = b' then some p else none := by
  have : (ow n k b p).L[n]? = some ⟨k, b, p⟩ := by
    show ((ov n).L ++ [⟨k, b, p⟩])[n]? = _
    rw [List.getElem?_append_right (by rw [ov_len]; exact Nat.le_refl _), ov_len, Nat.sub_self]
    rfl
  unfold opX behind
  rw [if_neg (by omega), Nat.add_sub_cancel, this]
  rfl
theorem ow_open (n : Nat) (k : Ky) (b p : List UInt8) (k' : Ky) (b' : List UInt8) : opE (ow n k b p) k' b' (n + 1) = (if k = k' ∧ b = b' then 0 else 51) ∧ opB (ow n k b p) k' b' (n + 1) = (if k = k' ∧ b = b' then p else []) := by
  have hG : ¬ k' ∈ (ow n k b p).G := by simp [ow]
  refine ⟨(if_neg hG).trans ?_, (if_neg hG).trans ?_⟩
  · rw [ow_opX]
    split <;> rfl
  · rw [ow_opX]
    split <;> rfl
theorem ow_next (n : Nat) (k : Ky) (b p : List UInt8) (k' : Ky) (b' : List UInt8) : opE (ow n k b p) k' b' (n + 2) = 51 := by
  have hG : ¬ k' ∈ (ow n k b p).G := by simp [ow]
  refine (if_neg hG).trans ?_
  have : opX (ow n k b p) k' b' (n + 2) = none := by
    unfold opX behind
    rw [if_neg (by omega), List.getElem?_eq_none (by rw [ow_len]; omega)]
    rfl
  rw [this]
  rfl
theorem ow_gone {n : Nat} {k : Ky} {b p : List UInt8} (hr : k.right) (hp : p.length ≤ 1000) (b' : List UInt8) (h : Nat) : opE ((ow n k b p).destroy k) k b' h = 50 ∧ seE ((ow n k b p).destroy k) k p.length = 50 := by
  have h1 : ¬ (¬ k.right ∨ 65536 < p.length) := by rintro (e | e); exact e hr; omega
  have h2 : k ∈ ((ow n k b p).destroy k).G := by simp [Va.destroy]
  exact ⟨if_pos h2, (if_neg h1).trans (if_pos h2)⟩
/-- The two operations, in blocks of the call's own. -/
structure Two5 (w wr : World) (o p : OpW) : Prop where
  a : Blk wr w.heap.size 36 #[.int .i64 (o).kind, .int .i64 (o).k.t, .int .i64 (o).k.c, .int .i64 (o).k.e, .string (str (o).b), .slice (o).A (o).n (o).c, .int .u64 ((o).H : Int)]
  b : Blk wr (w.heap.size + 1) 36 #[.int .i64 (p).kind, .int .i64 (p).k.t, .int .i64 (p).k.c, .int .i64 (p).k.e, .string (str (p).b), .slice (p).A (p).n (p).c, .int .u64 ((p).H : Int)]
def X5 (w : World) (x : Nat) : Prop := x = w.heap.size ∨ x = w.heap.size + 1
theorem Two5.keep {w wr wr' : World} {o p : OpW} (h : Two5 w wr o p) (hk : ∀ x, X5 w x → wr'.heap[x]? = wr.heap[x]?) : Two5 w wr' o p := ⟨h.a.keep (hk _ (.inl rfl)), h.b.keep (hk _ (.inr rfl))⟩
theorem Two5.bel {w wr wr' : World} {o p : OpW} (h : Two5 w wr o p) (hb : Below wr.heap.size wr wr') : Two5 w wr' o p := ⟨h.a.keep (hb.block _ h.a.lt), h.b.keep (hb.block _ h.b.lt)⟩
theorem op_cells {wr : World} {g : Nat} {o : OpW} (h : Blk wr g 36 #[.int .i64 (o).kind, .int .i64 (o).k.t, .int .i64 (o).k.c, .int .i64 (o).k.e, .string (str (o).b), .slice (o).A (o).n (o).c, .int .u64 ((o).H : Int)]) : wr.cell? ⟨g, 0, none⟩ = some (.int .i64 o.kind) ∧ wr.cell? ⟨g, 1, none⟩ = some (.int .i64 o.k.t) ∧ wr.cell? ⟨g, 2, none⟩ = some (.int .i64 o.k.c) ∧ wr.cell? ⟨g, 3, none⟩ = some (.int .i64 o.k.e) ∧ wr.cell? ⟨g, 4, none⟩ = some (.string (str o.b)) ∧ wr.cell? ⟨g, 5, none⟩ = some (.slice o.A o.n o.c) ∧ wr.cell? ⟨g, 6, none⟩ = some (.int .u64 (o.H : Int)) :=
  ⟨by simpa using h.cell 0, by simpa using h.cell 1, by simpa using h.cell 2, by simpa using h.cell 3, by simpa using h.cell 4, by simpa using h.cell 5, by simpa using h.cell 6⟩

theorem max4 (a b c d : Int) : ∃ M : Int, (∀ (P : Program) (ts : Array TypeId) (t : TypeId) (wx : World), (Builtin.max_ ts t #[.int .i64 a, .int .i64 b, .int .i64 c, .int .i64 d]).run P wx = .ok (.int .i64 M) wx) ∧ (1000 < M ↔ 1000 < a ∨ 1000 < b ∨ 1000 < c ∨ 1000 < d) := by
  refine ⟨if d > (if c > (if b > a then b else a) then c else (if b > a then b else a)) then d else (if c > (if b > a then b else a) then c else (if b > a then b else a)), fun P ts t wx => ?_, ?_⟩
  · simp [Builtin.max_, Builtin.max2]
  · split <;> split <;> split <;> omega

theorem rem9 {x : Int} (h1 : 0 ≤ x) (_h2 : x < 256) : ∃ m : Nat, m < 9 ∧ x % 9 = (m : Int) ∧ Int.tmod x 9 = (m : Int) := by
  refine ⟨(x % 9).toNat, by omega, by omega, ?_⟩
  rw [Int.tmod_eq_emod_of_nonneg h1]
  omega

set_option maxRecDepth 20000 in
set_option maxHeartbeats 8000000 in
theorem walkVaultOpens (o p : OpW) (m : Int) (w : World) (ho : o.ok w w.heap.size) (hp : p.ok w w.heap.size) (hm : (Lit.int .u8 m).wf = true) :
    Calls Try.prog 4 #[.agg o.cells.toArray, .agg p.cells.toArray, .int .u8 m] w fun e w' => e = .returned (.bool true) ∧ Below w.heap.size w w' := by
  show Calls Try.prog 4 #[.agg #[.int .i64 (o).kind, .int .i64 (o).k.t, .int .i64 (o).k.c, .int .i64 (o).k.e, .string (str (o).b), .slice (o).A (o).n (o).c, .int .u64 ((o).H : Int)], .agg #[.int .i64 (p).kind, .int .i64 (p).k.t, .int .i64 (p).k.c, .int .i64 (p).k.e, .string (str (p).b), .slice (p).A (p).n (p).c, .int .u64 ((p).H : Int)], .int .u8 m] w fun e w' => e = .returned (.bool true) ∧ Below w.heap.size w w'
  have hs0 : (w.alloc (.cells #[.int .i64 (o).kind, .int .i64 (o).k.t, .int .i64 (o).k.c, .int .i64 (o).k.e, .string (str (o).b), .slice (o).A (o).n (o).c, .int .u64 ((o).H : Int)] 36)).heap.size = w.heap.size + 1 := by simp
  have hb0 : Below w.heap.size w ((w.alloc (.cells #[.int .i64 (o).kind, .int .i64 (o).k.t, .int .i64 (o).k.c, .int .i64 (o).k.e, .string (str (o).b), .slice (o).A (o).n (o).c, .int .u64 ((o).H : Int)] 36)).alloc (.cells #[.int .i64 (p).kind, .int .i64 (p).k.t, .int .i64 (p).k.c, .int .i64 (p).k.e, .string (str (p).b), .slice (p).A (p).n (p).c, .int .u64 ((p).H : Int)] 36)) := ((Below.refl _ _).alloc (Nat.le_refl _) _).alloc (by rw [hs0]; omega) _
  have hT0 : Two5 w ((w.alloc (.cells #[.int .i64 (o).kind, .int .i64 (o).k.t, .int .i64 (o).k.c, .int .i64 (o).k.e, .string (str (o).b), .slice (o).A (o).n (o).c, .int .u64 ((o).H : Int)] 36)).alloc (.cells #[.int .i64 (p).kind, .int .i64 (p).k.t, .int .i64 (p).k.c, .int .i64 (p).k.e, .string (str (p).b), .slice (p).A (p).n (p).c, .int .u64 ((p).H : Int)] 36)) o p := ⟨(Blk.new w 36 #[.int .i64 (o).kind, .int .i64 (o).k.t, .int .i64 (o).k.c, .int .i64 (o).k.e, .string (str (o).b), .slice (o).A (o).n (o).c, .int .u64 ((o).H : Int)]).keep (((Below.refl (w.heap.size + 1) _).alloc (by rw [hs0]; exact Nat.le_refl _) _).block _ (by omega)), by have := Blk.new (w.alloc (.cells #[.int .i64 (o).kind, .int .i64 (o).k.t, .int .i64 (o).k.c, .int .i64 (o).k.e, .string (str (o).b), .slice (o).A (o).n (o).c, .int .u64 ((o).H : Int)] 36)) 36 #[.int .i64 (p).kind, .int .i64 (p).k.t, .int .i64 (p).k.c, .int .i64 (p).k.e, .string (str (p).b), .slice (p).A (p).n (p).c, .int .u64 ((p).H : Int)]; rw [hs0] at this; exact this⟩
  have hf := vfirst_c ((w.alloc (.cells #[.int .i64 (o).kind, .int .i64 (o).k.t, .int .i64 (o).k.c, .int .i64 (o).k.e, .string (str (o).b), .slice (o).A (o).n (o).c, .int .u64 ((o).H : Int)] 36)).alloc (.cells #[.int .i64 (p).kind, .int .i64 (p).k.t, .int .i64 (p).k.c, .int .i64 (p).k.e, .string (str (p).b), .slice (p).A (p).n (p).c, .int .u64 ((p).H : Int)] 36))
  have HB0 := hid hb0
  have HT0 := hid hT0
  have HO := hid ho
  have HP := hid hp
  have HM := hid (wf_u8 hm)
  clear ho hp hm hs0 hb0 hT0
  go_enter Try.func4, Try.ntmps4
  go_wp2_with fail
  refine hf.mono ?_
  rintro e w1 ⟨rfl, hb1⟩
  have HB1 := hid (HB0.out.trans (hb1.mono HB0.out.size))
  have HT1 := hid (HT0.out.bel hb1)
  obtain ⟨-, a1, a2, a3, a4, a5, -⟩ := op_cells HT1.out.a
  obtain ⟨-, -, -, -, b4, b5, -⟩ := op_cells HT1.out.b
  clear hf hb1 HB0 HT0
  obtain ⟨M, hM, hM2⟩ := max4 (o.n : Int) (p.n : Int) ((str o.b).size : Int) ((str p.b).size : Int)
  obtain ⟨m1, m2, hm1, hm2, hm3⟩ := min3 o.k
  have HM3 := hid hm3
  have HM2 := hid hM2
  clear hm3 hM2
  by_cases hbig : 1000 < M
  · have e1 : decide (1000 < M) = true := by simpa using hbig
    clear hbig
    as_aux_lemma =>
    go_wp2
    go_ret
    exact ⟨rfl, HB1.out⟩
  have e1 : decide (1000 < M) = false := by simpa using hbig
  have HN : Hid (o.n ≤ 1000) := hid (by have := HM2.out; omega)
  clear hbig HM2
  by_cases hr : ¬ o.k.right
  · have e2 : decide (m2 < 0) = true := by simp; exact HM3.out.2 hr
    clear hr HM3
    as_aux_lemma =>
    go_wp2
    go_ret
    exact ⟨rfl, HB1.out⟩
  have hr : o.k.right := Decidable.not_not.1 hr
  have e2 : decide (m2 < 0) = false := by simp; exact Int.not_lt.1 fun e => HM3.out.1 e hr
  have HR := hid hr
  clear HM3
  go_wp2_with fail
  refine (new_on w w1 HB1.out (X5 w) (fun x hx => by have := HT1.out.a.lt; have := HT1.out.b.lt; rcases hx with rfl | rfl <;> omega)).mono ?_
  rintro e w2 ⟨g, rfl, hv2, hb2⟩
  have HT2 := hid (HT1.out.bel hb2)
  have HV2 : Hid (VOn w w2 g (ov 0) (X5 w)) := hid hv2
  clear hv2 hb2 HB1 HT1 a1 a2 a3 a4 a5 b4 b5 e1 e2 hM hm1 hm2
  obtain ⟨N, hN, hr1, hr2⟩ := rem9 HM.out.1 HM.out.2
  have HNN := hid hN
  clear hN
  go_wp2_with fail
  go_loopg [60] N (fun kk iv wr => ∃ (j : Nat), iv = .int .u8 (j : Int) ∧ Hid (kk = N - j) ∧ Hid (j ≤ N) ∧ Hid (Two5 w wr o p) ∧ Hid (VOn w wr g (ov j) (X5 w)))
  case atStart => exact ⟨0, rfl, hid (by omega), hid (Nat.zero_le _), HT2, HV2⟩
  case round =>
  obtain ⟨j, rfl, hgk, hj, hT, hV⟩ := hrel
  clear HV2 HT2
  rcases Nat.lt_or_ge j N with hlt | hge
  · have HLT := hid hlt
    have j3 : decide ((j : Int) < (N : Int)) = true := by simpa using hlt
    have j4 : decide (j < N) = true := by simpa using hlt
    have wj : IntKind.u8.wrap ((j : Int) + 1) = ((j + 1 : Nat) : Int) := wrap8 (j := j + 1) (by have := HNN.out; omega)
    have hse := seal_on w wr g (ov j) (X5 w) hV.out kone kone_wf oth none 0 0 [] (Bts.nil _ _ _ _) (by rw [ov_len]; have := HNN.out; omega)
    clear hlt
    as_aux_lemma =>
    go_wp2_with fail
    refine hse.mono ?_
    rintro e w3 ⟨rfl, hv3, hk3⟩
    rw [ov_seal] at hv3
    have HV3 := hid hv3
    have HT3 := hid (hT.out.keep hk3)
    clear hse hv3 hk3 hT hV
    go_wp2
    go_roundg (N - (j + 1))
    case measure => have := hgk.out; have := HLT.out; omega
    case rel => exact ⟨j + 1, congrArg (Value.int .u8) (by first | exact wj | omega | rfl), hid rfl, hid (by have := HLT.out; omega), HT3, HV3⟩
  obtain rfl : j = N := by have := hj.out; omega
  have j3 : decide ((j : Int) < (j : Int)) = false := by simp
  have j4 : decide (j < j) = false := by simp
  clear hge hgk hj
  have hse := seal_on w wr g (ov j) (X5 w) hV.out o.k HO.out.k o.b o.A o.n o.c o.p ((HO.out.p.below hV.out.below (Nat.le_refl _)).wide (Nat.le_refl _) hV.out.below.size) (by rw [ov_len]; have := HNN.out; omega)
  obtain ⟨-, a1, a2, a3, a4, a5, -⟩ := op_cells hT.out.a
  obtain ⟨-, b1, b2, b3, b4, -, -⟩ := op_cells hT.out.b
  have HPL : Hid (o.p.length ≤ 1000) := hid (by rw [HO.out.p.len]; exact HN.out)
  as_aux_lemma =>
  go_wp2_with fail
  refine hse.mono ?_
  rintro e w3 ⟨rfl, hv3, hk3⟩
  obtain ⟨h1, h2, h3⟩ := ow_seal (n := j) (b := o.b) HR.out HPL.out
  rw [h1, h2]
  rw [h3] at hv3
  have HV3 := hid hv3
  have HT3 := hid (hT.out.keep hk3)
  clear hse hv3 hk3 hT hV h1 h2 h3 j3 j4
  clear a1 a2 a3 a4 a5 b1 b2 b3 b4
  obtain ⟨-, a1, a2, a3, a4, a5, -⟩ := op_cells HT3.out.a
  obtain ⟨-, b1, b2, b3, b4, -, -⟩ := op_cells HT3.out.b
  have hop := open_on w w3 g _ _ HV3.out o.k HO.out.k o.b ((j + 1 : Nat) : Int) (j + 1) rfl (by have := HNN.out; omega)
  obtain ⟨h1, h2⟩ := ow_open j o.k o.b o.p o.k o.b
  rw [if_pos ⟨rfl, rfl⟩] at h1 h2
  rw [h1, h2] at hop
  clear h1 h2
  go_wp2_with fail
  refine hop.mono ?_
  rintro e w4 ⟨A4, n4, c4, rfl, ho4, -, hb4⟩
  have HV4 := hid (HV3.out.bel hb4)
  have HT4 := hid (HT3.out.bel hb4)
  have HX4 := hid (Bts.own ho4)
  clear hop ho4 hb4 HV3 HT3
  clear a1 a2 a3 a4 a5 b1 b2 b3 b4
  obtain ⟨-, a1, a2, a3, a4, a5, -⟩ := op_cells HT4.out.a
  obtain ⟨-, b1, b2, b3, b4, -, -⟩ := op_cells HT4.out.b
  have hop := open_on w w4 g _ _ HV4.out p.k HP.out.k p.b ((j + 1 : Nat) : Int) (j + 1) rfl (by have := HNN.out; omega)
  obtain ⟨h1, h2⟩ := ow_open j o.k o.b o.p p.k p.b
  rw [h1, h2] at hop
  clear h1 h2
  go_wp2_with fail
  refine hop.mono ?_
  rintro e w5 ⟨A5, n5, c5, rfl, ho5, -, hb5⟩
  have HV5 := hid (HV4.out.bel hb5)
  have HT5 := hid (HT4.out.bel hb5)
  have HX5 := hid ((HX4.out).below hb5 (Nat.le_refl _))
  have HP5 := hid (HO.out.p.below HV5.out.below (Nat.le_refl _))
  clear hop hb5 HV4 HT4 HX4
  clear a1 a2 a3 a4 a5 b1 b2 b3 b4
  obtain ⟨-, a1, a2, a3, a4, a5, -⟩ := op_cells HT5.out.a
  obtain ⟨-, b1, b2, b3, b4, -, -⟩ := op_cells HT5.out.b
  have v1 := run_str (P := Try.prog) (c := c4) 33 9 5 Try.underlying33 Try.underlying5 Try.underlying9 HX5.out
  have v2 := run_str (P := Try.prog) (c := o.c) 33 9 5 Try.underlying33 Try.underlying5 Try.underlying9 HP5.out
  have v3 : ((str o.p).toList == (str o.p).toList) = true := by simp
  have wu1 : IntKind.u64.wrap (j : Int) = (j : Int) := wrapu (by omega) (by have := HNN.out; omega)
  have wu2 : IntKind.u64.wrap (1 + (j : Int)) = ((j + 1 : Nat) : Int) := by rw [wrapu (by omega) (by have := HNN.out; omega)]; omega
  have wu3 : IntKind.u64.wrap (((j + 1 : Nat) : Int) + 1) = ((j + 2 : Nat) : Int) := by rw [wrapu (by omega) (by have := HNN.out; omega)]; omega
  have heq := eq_key o.k p.k
  by_cases hkk : o.k = p.k
  · rw [decide_eq_true hkk] at heq
    by_cases hbb : o.b = p.b
    · rw [if_pos ⟨hkk, hbb⟩]
      rw [if_pos ⟨hkk, hbb⟩] at ho5
      have v5 : ((str o.b).toList == (str p.b).toList) = true := by rw [hbb]; simp
      have v4 := own_str ho5
      clear hkk hbb
      as_aux_lemma =>
      have HY := hid ho5
      clear ho5
      have hop := open_on w w5 g _ _ HV5.out o.k HO.out.k o.b ((j + 2 : Nat) : Int) (j + 2) rfl (by have := HNN.out; omega)
      rw [ow_next] at hop
      go_wp2_with fail
      refine hop.mono ?_
      rintro e w6 ⟨A6, n6, c6, rfl, -, -, hb6⟩
      have HV6 := hid (HV5.out.bel hb6)
      have HT6 := hid (HT5.out.bel hb6)
      clear hop hb6 HV5 HT5 HX5 HP5 HY v1 v2
      clear a1 a2 a3 a4 a5 b1 b2 b3 b4
      obtain ⟨-, a1, a2, a3, a4, a5, -⟩ := op_cells HT6.out.a
      obtain ⟨-, b1, b2, b3, b4, -, -⟩ := op_cells HT6.out.b
      have hde := destroy_on w w6 g _ _ HV6.out o.k HO.out.k (by rw [ow_len]; have := HNN.out; omega) (by show (0 : Nat) ≤ 1000000; omega)
      go_wp2_with fail
      refine hde.mono ?_
      rintro e w7 ⟨rfl, hv7, hk7⟩
      have HV7 := hid hv7
      have HT7 := hid (HT6.out.keep hk7)
      clear hde hv7 hk7 HV6 HT6
      clear a1 a2 a3 a4 a5 b1 b2 b3 b4
      obtain ⟨-, a1, a2, a3, a4, a5, -⟩ := op_cells HT7.out.a
      obtain ⟨-, b1, b2, b3, b4, -, -⟩ := op_cells HT7.out.b
      obtain ⟨h1, h2⟩ := ow_gone (n := j) (b := o.b) HR.out HPL.out o.b (j + 1)
      have hop := open_on w w7 g _ _ HV7.out o.k HO.out.k o.b ((j + 1 : Nat) : Int) (j + 1) rfl (by have := HNN.out; omega)
      rw [h1] at hop
      have H2 := hid h2
      clear h1 h2
      go_wp2_with fail
      refine hop.mono ?_
      rintro e w8 ⟨A8, n8, c8, rfl, -, -, hb8⟩
      have HV8 := hid (HV7.out.bel hb8)
      have HT8 := hid (HT7.out.bel hb8)
      clear hop hb8 HV7 HT7
      clear a1 a2 a3 a4 a5 b1 b2 b3 b4
      obtain ⟨-, a1, a2, a3, a4, a5, -⟩ := op_cells HT8.out.a
      obtain ⟨-, b1, b2, b3, b4, -, -⟩ := op_cells HT8.out.b
      have hse := seal_on w w8 g _ (X5 w) HV8.out o.k HO.out.k o.b o.A o.n o.c o.p ((HO.out.p.below HV8.out.below (Nat.le_refl _)).wide (Nat.le_refl _) HV8.out.below.size) (by show (((ow j o.k o.b o.p).L).map (wipe o.k)).length ≤ 1000000; rw [List.length_map, ow_len]; have := HNN.out; omega)
      go_wp2_with fail
      refine hse.mono ?_
      rintro e w9 ⟨rfl, hv9, hk9⟩
      rw [H2.out]
      have HB9 := hid hv9.below
      have HT9 := hid (HT8.out.keep hk9)
      clear hse hv9 hk9 HV8 HT8 H2
      clear a1 a2 a3 a4 a5 b1 b2 b3 b4
      obtain ⟨-, a1, a2, a3, a4, a5, -⟩ := op_cells HT9.out.a
      obtain ⟨-, b1, b2, b3, b4, -, -⟩ := op_cells HT9.out.b
      go_wp2_with fail
      refine (destroy_nil w9 o.k).mono ?_
      rintro e w10 ⟨rfl, hb10⟩
      have HB10 := hid (HB9.out.trans (hb10.mono HB9.out.size))
      have HT10 := hid (HT9.out.bel hb10)
      clear hb10 HB9 HT9
      clear a1 a2 a3 a4 a5 b1 b2 b3 b4
      obtain ⟨-, a1, a2, a3, a4, a5, -⟩ := op_cells HT10.out.a
      obtain ⟨-, b1, b2, b3, b4, -, -⟩ := op_cells HT10.out.b
      go_wp2_with fail
      refine (seal_nil w10 o.k _ _ _ _).mono ?_
      rintro e w11 ⟨rfl, hb11⟩
      have HB11 := hid (HB10.out.trans (hb11.mono HB10.out.size))
      have HT11 := hid (HT10.out.bel hb11)
      clear hb11 HB10 HT10
      clear a1 a2 a3 a4 a5 b1 b2 b3 b4
      obtain ⟨-, a1, a2, a3, a4, a5, -⟩ := op_cells HT11.out.a
      obtain ⟨-, b1, b2, b3, b4, -, -⟩ := op_cells HT11.out.b
      go_wp2_with fail
      refine (open_nil w11 o.k [] 1).mono ?_
      rintro e w12 ⟨rfl, hb12⟩
      have HB12 := hid (HB11.out.trans (hb12.mono HB11.out.size))
      clear hb12 HB11 HT11
      clear a1 a2 a3 a4 a5 b1 b2 b3 b4
      go_wp2_with fail
      refine (under_nil w12 1).mono ?_
      rintro e w13 ⟨rfl, hb13⟩
      have HB13 := hid (HB12.out.trans (hb13.mono HB12.out.size))
      have HB14 := hid (HB13.out.alloc (o := .cells #[.int .i64 0, .int .i64 0, .int .i64 0] 32) HB13.out.size)
      clear hb13 HB12 HB13
      go_wp2_with fail
      refine (sealed_nil _).mono ?_
      rintro e w15 ⟨rfl, rfl⟩
      go_wp2
      go_ret
      exact ⟨rfl, HB14.out⟩
    · rw [if_neg (fun e => hbb e.2)]
      rw [if_neg (fun e => hbb e.2)] at ho5
      have v5 := str_ne hbb
      have hn5 : n5 = 0 := by have := ho5.1; rw [bs_len] at this; simpa using this.symm
      subst hn5
      clear hkk hbb
      as_aux_lemma =>
      have HY := hid ho5
      clear ho5
      have hop := open_on w w5 g _ _ HV5.out o.k HO.out.k o.b ((j + 2 : Nat) : Int) (j + 2) rfl (by have := HNN.out; omega)
      rw [ow_next] at hop
      go_wp2_with fail
      refine hop.mono ?_
      rintro e w6 ⟨A6, n6, c6, rfl, -, -, hb6⟩
      have HV6 := hid (HV5.out.bel hb6)
      have HT6 := hid (HT5.out.bel hb6)
      clear hop hb6 HV5 HT5 HX5 HP5 HY v1 v2
      clear a1 a2 a3 a4 a5 b1 b2 b3 b4
      obtain ⟨-, a1, a2, a3, a4, a5, -⟩ := op_cells HT6.out.a
      obtain ⟨-, b1, b2, b3, b4, -, -⟩ := op_cells HT6.out.b
      have hde := destroy_on w w6 g _ _ HV6.out o.k HO.out.k (by rw [ow_len]; have := HNN.out; omega) (by show (0 : Nat) ≤ 1000000; omega)
      go_wp2_with fail
      refine hde.mono ?_
      rintro e w7 ⟨rfl, hv7, hk7⟩
      have HV7 := hid hv7
      have HT7 := hid (HT6.out.keep hk7)
      clear hde hv7 hk7 HV6 HT6
      clear a1 a2 a3 a4 a5 b1 b2 b3 b4
      obtain ⟨-, a1, a2, a3, a4, a5, -⟩ := op_cells HT7.out.a
      obtain ⟨-, b1, b2, b3, b4, -, -⟩ := op_cells HT7.out.b
      obtain ⟨h1, h2⟩ := ow_gone (n := j) (b := o.b) HR.out HPL.out o.b (j + 1)
      have hop := open_on w w7 g _ _ HV7.out o.k HO.out.k o.b ((j + 1 : Nat) : Int) (j + 1) rfl (by have := HNN.out; omega)
      rw [h1] at hop
      have H2 := hid h2
      clear h1 h2
      go_wp2_with fail
      refine hop.mono ?_
      rintro e w8 ⟨A8, n8, c8, rfl, -, -, hb8⟩
      have HV8 := hid (HV7.out.bel hb8)
      have HT8 := hid (HT7.out.bel hb8)
      clear hop hb8 HV7 HT7
      clear a1 a2 a3 a4 a5 b1 b2 b3 b4
      obtain ⟨-, a1, a2, a3, a4, a5, -⟩ := op_cells HT8.out.a
      obtain ⟨-, b1, b2, b3, b4, -, -⟩ := op_cells HT8.out.b
      have hse := seal_on w w8 g _ (X5 w) HV8.out o.k HO.out.k o.b o.A o.n o.c o.p ((HO.out.p.below HV8.out.below (Nat.le_refl _)).wide (Nat.le_refl _) HV8.out.below.size) (by show (((ow j o.k o.b o.p).L).map (wipe o.k)).length ≤ 1000000; rw [List.length_map, ow_len]; have := HNN.out; omega)
      go_wp2_with fail
      refine hse.mono ?_
      rintro e w9 ⟨rfl, hv9, hk9⟩
      rw [H2.out]
      have HB9 := hid hv9.below
      have HT9 := hid (HT8.out.keep hk9)
      clear hse hv9 hk9 HV8 HT8 H2
      clear a1 a2 a3 a4 a5 b1 b2 b3 b4
      obtain ⟨-, a1, a2, a3, a4, a5, -⟩ := op_cells HT9.out.a
      obtain ⟨-, b1, b2, b3, b4, -, -⟩ := op_cells HT9.out.b
      go_wp2_with fail
      refine (destroy_nil w9 o.k).mono ?_
      rintro e w10 ⟨rfl, hb10⟩
      have HB10 := hid (HB9.out.trans (hb10.mono HB9.out.size))
      have HT10 := hid (HT9.out.bel hb10)
      clear hb10 HB9 HT9
      clear a1 a2 a3 a4 a5 b1 b2 b3 b4
      obtain ⟨-, a1, a2, a3, a4, a5, -⟩ := op_cells HT10.out.a
      obtain ⟨-, b1, b2, b3, b4, -, -⟩ := op_cells HT10.out.b
      go_wp2_with fail
      refine (seal_nil w10 o.k _ _ _ _).mono ?_
      rintro e w11 ⟨rfl, hb11⟩
      have HB11 := hid (HB10.out.trans (hb11.mono HB10.out.size))
      have HT11 := hid (HT10.out.bel hb11)
      clear hb11 HB10 HT10
      clear a1 a2 a3 a4 a5 b1 b2 b3 b4
      obtain ⟨-, a1, a2, a3, a4, a5, -⟩ := op_cells HT11.out.a
      obtain ⟨-, b1, b2, b3, b4, -, -⟩ := op_cells HT11.out.b
      go_wp2_with fail
      refine (open_nil w11 o.k [] 1).mono ?_
      rintro e w12 ⟨rfl, hb12⟩
      have HB12 := hid (HB11.out.trans (hb12.mono HB11.out.size))
      clear hb12 HB11 HT11
      clear a1 a2 a3 a4 a5 b1 b2 b3 b4
      go_wp2_with fail
      refine (under_nil w12 1).mono ?_
      rintro e w13 ⟨rfl, hb13⟩
      have HB13 := hid (HB12.out.trans (hb13.mono HB12.out.size))
      have HB14 := hid (HB13.out.alloc (o := .cells #[.int .i64 0, .int .i64 0, .int .i64 0] 32) HB13.out.size)
      clear hb13 HB12 HB13
      go_wp2_with fail
      refine (sealed_nil _).mono ?_
      rintro e w15 ⟨rfl, rfl⟩
      go_wp2
      go_ret
      exact ⟨rfl, HB14.out⟩
  · rw [decide_eq_false hkk] at heq
    rw [if_neg (fun e => hkk e.1)]
    rw [if_neg (fun e => hkk e.1)] at ho5
    have hn5 : n5 = 0 := by have := ho5.1; rw [bs_len] at this; simpa using this.symm
    subst hn5
    clear hkk
    as_aux_lemma =>
    have HY := hid ho5
    clear ho5
    have hop := open_on w w5 g _ _ HV5.out o.k HO.out.k o.b ((j + 2 : Nat) : Int) (j + 2) rfl (by have := HNN.out; omega)
    rw [ow_next] at hop
    go_wp2_with fail
    refine hop.mono ?_
    rintro e w6 ⟨A6, n6, c6, rfl, -, -, hb6⟩
    have HV6 := hid (HV5.out.bel hb6)
    have HT6 := hid (HT5.out.bel hb6)
    clear hop hb6 HV5 HT5 HX5 HP5 HY v1 v2
    clear a1 a2 a3 a4 a5 b1 b2 b3 b4
    obtain ⟨-, a1, a2, a3, a4, a5, -⟩ := op_cells HT6.out.a
    obtain ⟨-, b1, b2, b3, b4, -, -⟩ := op_cells HT6.out.b
    have hde := destroy_on w w6 g _ _ HV6.out o.k HO.out.k (by rw [ow_len]; have := HNN.out; omega) (by show (0 : Nat) ≤ 1000000; omega)
    go_wp2_with fail
    refine hde.mono ?_
    rintro e w7 ⟨rfl, hv7, hk7⟩
    have HV7 := hid hv7
    have HT7 := hid (HT6.out.keep hk7)
    clear hde hv7 hk7 HV6 HT6
    clear a1 a2 a3 a4 a5 b1 b2 b3 b4
    obtain ⟨-, a1, a2, a3, a4, a5, -⟩ := op_cells HT7.out.a
    obtain ⟨-, b1, b2, b3, b4, -, -⟩ := op_cells HT7.out.b
    obtain ⟨h1, h2⟩ := ow_gone (n := j) (b := o.b) HR.out HPL.out o.b (j + 1)
    have hop := open_on w w7 g _ _ HV7.out o.k HO.out.k o.b ((j + 1 : Nat) : Int) (j + 1) rfl (by have := HNN.out; omega)
    rw [h1] at hop
    have H2 := hid h2
    clear h1 h2
    go_wp2_with fail
    refine hop.mono ?_
    rintro e w8 ⟨A8, n8, c8, rfl, -, -, hb8⟩
    have HV8 := hid (HV7.out.bel hb8)
    have HT8 := hid (HT7.out.bel hb8)
    clear hop hb8 HV7 HT7
    clear a1 a2 a3 a4 a5 b1 b2 b3 b4
    obtain ⟨-, a1, a2, a3, a4, a5, -⟩ := op_cells HT8.out.a
    obtain ⟨-, b1, b2, b3, b4, -, -⟩ := op_cells HT8.out.b
    have hse := seal_on w w8 g _ (X5 w) HV8.out o.k HO.out.k o.b o.A o.n o.c o.p ((HO.out.p.below HV8.out.below (Nat.le_refl _)).wide (Nat.le_refl _) HV8.out.below.size) (by show (((ow j o.k o.b o.p).L).map (wipe o.k)).length ≤ 1000000; rw [List.length_map, ow_len]; have := HNN.out; omega)
    go_wp2_with fail
    refine hse.mono ?_
    rintro e w9 ⟨rfl, hv9, hk9⟩
    rw [H2.out]
    have HB9 := hid hv9.below
    have HT9 := hid (HT8.out.keep hk9)
    clear hse hv9 hk9 HV8 HT8 H2
    clear a1 a2 a3 a4 a5 b1 b2 b3 b4
    obtain ⟨-, a1, a2, a3, a4, a5, -⟩ := op_cells HT9.out.a
    obtain ⟨-, b1, b2, b3, b4, -, -⟩ := op_cells HT9.out.b
    go_wp2_with fail
    refine (destroy_nil w9 o.k).mono ?_
    rintro e w10 ⟨rfl, hb10⟩
    have HB10 := hid (HB9.out.trans (hb10.mono HB9.out.size))
    have HT10 := hid (HT9.out.bel hb10)
    clear hb10 HB9 HT9
    clear a1 a2 a3 a4 a5 b1 b2 b3 b4
    obtain ⟨-, a1, a2, a3, a4, a5, -⟩ := op_cells HT10.out.a
    obtain ⟨-, b1, b2, b3, b4, -, -⟩ := op_cells HT10.out.b
    go_wp2_with fail
    refine (seal_nil w10 o.k _ _ _ _).mono ?_
    rintro e w11 ⟨rfl, hb11⟩
    have HB11 := hid (HB10.out.trans (hb11.mono HB10.out.size))
    have HT11 := hid (HT10.out.bel hb11)
    clear hb11 HB10 HT10
    clear a1 a2 a3 a4 a5 b1 b2 b3 b4
    obtain ⟨-, a1, a2, a3, a4, a5, -⟩ := op_cells HT11.out.a
    obtain ⟨-, b1, b2, b3, b4, -, -⟩ := op_cells HT11.out.b
    go_wp2_with fail
    refine (open_nil w11 o.k [] 1).mono ?_
    rintro e w12 ⟨rfl, hb12⟩
    have HB12 := hid (HB11.out.trans (hb12.mono HB11.out.size))
    clear hb12 HB11 HT11
    clear a1 a2 a3 a4 a5 b1 b2 b3 b4
    go_wp2_with fail
    refine (under_nil w12 1).mono ?_
    rintro e w13 ⟨rfl, hb13⟩
    have HB13 := hid (HB12.out.trans (hb13.mono HB12.out.size))
    have HB14 := hid (HB13.out.alloc (o := .cells #[.int .i64 0, .int .i64 0, .int .i64 0] 32) HB13.out.size)
    clear hb13 HB12 HB13
    go_wp2_with fail
    refine (sealed_nil _).mono ?_
    rintro e w15 ⟨rfl, rfl⟩
    go_wp2
    go_ret
    exact ⟨rfl, HB14.out⟩
end Go.Proofs.Ytaailoodhaibiaa
