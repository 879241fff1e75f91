/- What the document's own Get returns: the value at the beginning of bytes, and how many it has. -/
import Derived.Test.YtfjpnkchldjjmaaGreatDoorVlGet
import Derived.Test.YtfjpnkchldjjmaaGreatDoorPkRef
namespace Go.Proofs.YtfjpnkchldjjmaaGreatDoor
open Go.RowKit

/-- What it answers. -/
def rgV (l : List UInt8) : Vl := match vGet l with | some (v, _) => v | none => vNull
def rgN (l : List UInt8) : Nat := match vGet l with | some (_, k) => k | none => 0
theorem rg_some {l : List UInt8} {v : Vl} {k : Nat} (h : vGet l = some (v, k)) : rgV l = v ∧ rgN l = k := by unfold rgV rgN; rw [h]; exact ⟨rfl, rfl⟩
theorem rg_none {l : List UInt8} (h : vGet l = none) : rgV l = vNull ∧ rgN l = 0 := by unfold rgV rgN; rw [h]; exact ⟨rfl, rfl⟩
def GetQ (l : List UInt8) (w : World) (e : Ending) (w' : World) : Prop := e = .returned (.tuple #[(.agg #[.int .i64 (vk (rgV l)), .int .i64 (vn (rgV l)), .string (str (vs (rgV l))), .int .u64 ((vf (rgV l) : Nat) : Int)]), .int .i64 ((rgN l : Nat) : Int)]) ∧ Below w.heap.size w w'
theorem getQ_none {l : List UInt8} {w w' : World} (h : vGet l = none) (hb : Below w.heap.size w w') : GetQ l w (.returned (.tuple #[(.agg #[.int .i64 (0), .int .i64 (0), .string (str ([])), .int .u64 ((0 : Nat) : Int)]), .int .i64 0])) w' := by
  unfold GetQ
  rw [(rg_none h).1, (rg_none h).2]
  exact ⟨rfl, hb⟩
theorem getQ_some {l : List UInt8} {v : Vl} {k : Nat} {w w' : World} (h : vGet l = some (v, k)) (hb : Below w.heap.size w w') : GetQ l w (.returned (.tuple #[(.agg #[.int .i64 (vk v), .int .i64 (vn v), .string (str (vs v)), .int .u64 ((vf v : Nat) : Int)]), .int .i64 (k : Int)])) w' := by
  unfold GetQ
  rw [(rg_some h).1, (rg_some h).2]
  exact ⟨rfl, hb⟩

theorem wA {k : Nat} (h : k ≤ 2000) : wrap64 (1 + (k : Int)) = ((1 + k : Nat) : Int) := by unfold wrap64; omega
theorem wB {a u : Nat} (h : a + u ≤ 4000) : wrap64 ((a : Int) + (u : Int)) = ((a + u : Nat) : Int) := by unfold wrap64; omega
theorem wC {n : Nat} (h : n ≤ 1000) : wrap64 ((n : Int) - 1) = (n : Int) - 1 := by unfold wrap64; omega
theorem wD {n k : Nat} (h : n ≤ 1000) (h2 : k ≤ n - 1) (h3 : 1 ≤ n) : wrap64 ((n : Int) - 1 - (k : Int)) = ((n - 1 - k : Nat) : Int) := by unfold wrap64; omega
theorem wE {q : Nat} (h : q ≤ 1000) : IntKind.u64.wrap (q : Int) = (q : Int) := by rw [IntKind.wrap_u64]; omega
theorem wF {u : Nat} (h : u ≤ 1000) : wrap64 (u : Int) = (u : Int) := by unfold wrap64; omega
theorem dlt {a b : Nat} (h : a < b) : decide ((a : Int) < (b : Int)) = true ∧ decide (a < b) = true := by simp; omega
theorem dge {a b : Nat} (h : ¬ a < b) : decide ((a : Int) < (b : Int)) = false ∧ decide (a < b) = false := by simp; omega

set_option maxRecDepth 20000 in
set_option maxHeartbeats 8000000 in
theorem rget_c (A : Option Addr) (n c : Nat) (l : List UInt8) (w : World) (hc : n ≤ c) (hr : Bts w 0 w.heap.size A n l) (hn : n ≤ 1000) :
    Calls Tryz.prog 12 #[.slice A n c] w (GetQ l w) := by
  have R1 := hid (Blk.new w 26 #[.int .i64 0, .int .i64 0, .string ⟨#[]⟩, .int .u64 0])
  cases l with
  | nil =>
    obtain rfl : n = 0 := by have := hr.len; simpa using this.symm
    obtain ⟨p0, p1, p2, p3, pf⟩ := Blk.v4 R1.out
    have HB := hid (bel1 w (.cells #[.int .i64 0, .int .i64 0, .string ⟨#[]⟩, .int .u64 0] 26))
    clear R1 hr hc hn
    go_enter Tryz.func12, Tryz.ntmps12
    go_wp2
    refine bodyPost_ret (v := .tuple #[(.agg #[.int .i64 (0), .int .i64 (0), .string (str ([])), .int .u64 ((0 : Nat) : Int)]), .int .i64 0]) (by simp [results, Tryz.results12, go_sem, strn]) rfl ?_
    exact getQ_none rfl (by first | exact HB.out | exact bel4 HB.out (Nat.le_refl _) _ _ _ _)
  | cons b r =>
    have hlen : n = r.length + 1 := by have := hr.len; simpa using this.symm
    obtain ⟨ab, off, rfl, -, hab, hcell⟩ := hr.2 (by omega)
    obtain ⟨B, hB⟩ : ∃ B : Int, B = (b.toNat : Int) := ⟨_, rfl⟩
    have wb : wrap64 B = B := by rw [hB]; exact kind_w b
    have HBE := hid hB
    have K1 : Hid (Below w.heap.size w (w.alloc (.cells #[.int .i64 0, .int .i64 0, .string ⟨#[]⟩, .int .u64 0] 26))) := hid (bel1 w _)
    have K2 : Hid (Below w.heap.size w ((w.alloc (.cells #[.int .i64 0, .int .i64 0, .string ⟨#[]⟩, .int .u64 0] 26)).alloc (.cells #[.int .i64 B, .int .i64 0, .string ⟨#[]⟩, .int .u64 0] 26))) := hid (K1.out.alloc (by simp) _)
    have c0 : w.cell? ⟨ab, off, none⟩ = some (.int .u8 B) := by rw [hB]; exact hcell 0 _ rfl
    have c1 : (w.alloc (.cells #[.int .i64 0, .int .i64 0, .string ⟨#[]⟩, .int .u64 0] 26)).cell? ⟨ab, off, none⟩ = some (.int .u8 B) := (World.cell?_of_block (K1.out.block ab hab)).trans c0
    have c2 : ((w.alloc (.cells #[.int .i64 0, .int .i64 0, .string ⟨#[]⟩, .int .u64 0] 26)).alloc (.cells #[.int .i64 B, .int .i64 0, .string ⟨#[]⟩, .int .u64 0] 26)).cell? ⟨ab, off, none⟩ = some (.int .u8 B) := (World.cell?_of_block (K2.out.block ab hab)).trans c0
    have R2 := hid (R1.out.old (.cells #[.int .i64 B, .int .i64 0, .string ⟨#[]⟩, .int .u64 0] 26))
    have V2 : Hid (Blk ((w.alloc (.cells #[.int .i64 0, .int .i64 0, .string ⟨#[]⟩, .int .u64 0] 26)).alloc (.cells #[.int .i64 B, .int .i64 0, .string ⟨#[]⟩, .int .u64 0] 26)) (w.heap.size + 1) 26 #[.int .i64 B, .int .i64 0, .string ⟨#[]⟩, .int .u64 0]) := hid (by have := Blk.new (w.alloc (.cells #[.int .i64 0, .int .i64 0, .string ⟨#[]⟩, .int .u64 0] 26)) 26 #[.int .i64 B, .int .i64 0, .string ⟨#[]⟩, .int .u64 0]; rwa [show (w.alloc (.cells #[.int .i64 0, .int .i64 0, .string ⟨#[]⟩, .int .u64 0] 26)).heap.size = w.heap.size + 1 by simp] at this)
    have BT : Hid (∀ wx, Below w.heap.size w wx → Bts wx 0 wx.heap.size (some ⟨ab, off, none⟩) n (b :: r)) := hid (fun wx hx => (hr.below hx (Nat.le_refl _)).wide (Nat.le_refl _) hx.size)
    have HLN := hid hlen
    have HNC := hid hc
    have HN := hid hn
    have l1 : ((n : Int) == 0) = false := beq_false_of_ne (by omega)
    have l2 : (0 : Int) < (n : Int) := by omega
    have l3 : (n : Int) ≤ (c : Int) := by omega
    have l4 : (1 : Int) ≤ (n : Int) := by omega
    clear R1 K1 hr hc hn hlen hB hcell hab c0
    go_enter Tryz.func12, Tryz.ntmps12
    go_upto_block 0 with fail
    generalize (w.alloc (.cells #[.int .i64 0, .int .i64 0, .string ⟨#[]⟩, .int .u64 0] 26)).alloc (.cells #[.int .i64 B, .int .i64 0, .string ⟨#[]⟩, .int .u64 0] 26) = w2 at *
    clear c1
    go_cut [5, 6, 7, 8, 9, 10] (fun s5 _ _ _ _ _ wx => ∃ (x : Vl) (k : Nat), s5 = .int .i64 (k : Int) ∧ Hid (Blk wx w.heap.size 26 #[.int .i64 0, .int .i64 0, .string ⟨#[]⟩, .int .u64 0]) ∧ Hid (Blk wx (w.heap.size + 1) 26 (cs4 x)) ∧ Hid (Below w.heap.size w wx) ∧ Hid (vf x < 18446744073709551616 ∧ (vRight x = false → vGet (b :: r) = none) ∧ (vRight x = true → vGet (b :: r) = some (x, k))))
    case first =>
      by_cases b0 : b.toNat = 0
      · as_aux_lemma =>
        obtain rfl : B = 0 := by have := HBE.out; omega
        go_wp2_with fail
        go_meet
        case rel => exact ⟨vNull, 1, rfl, R2, V2, K2, hid ⟨by decide, fun h => (by cases h), fun _ => vg_0 b0⟩⟩
      by_cases b1 : b.toNat = 1
      · obtain rfl : B = 1 := by have := HBE.out; omega
        by_cases hc1 : c = 1
        · as_aux_lemma =>
          obtain rfl : n = 1 := by have := HLN.out; have := HNC.out; omega
          subst hc1
          have hr0 : r = [] := List.eq_nil_of_length_eq_zero (by have := HLN.out; omega)
          subst hr0
          have VG := hid (vg_1n (r := []) b1 rfl)
          go_wp2_with fail
          refine (refRead_c (some ⟨ab, off, none⟩) 0 0 [] w2 0 w2.heap.size (Bts.nil _ _ _ _) (by decide)).mono ?_
          rintro e w' ⟨rfl, rfl⟩
          rw [show (rd []).1 = 0 from rfl, show (rd []).2 = 0 from rfl]
          obtain ⟨p0, p1, p2, p3, pf⟩ := Blk.v4 R2.out
          go_wp2
          refine bodyPost_ret (v := .tuple #[(.agg #[.int .i64 (0), .int .i64 (0), .string (str ([])), .int .u64 ((0 : Nat) : Int)]), .int .i64 0]) (by simp [results, Tryz.results12, go_sem, p0, p1, p2, p3, strn]) rfl ?_
          exact getQ_none VG.out (bel4 K2.out (Nat.le_refl _) _ _ _ _)
        · as_aux_lemma =>
          have e1 : decide ((c : Int) = 1) = false := by simp; omega
          have HB1 : Hid (Bts w2 0 w2.heap.size (some ⟨ab, off + 1, none⟩) (n - 1) r) := hid ((BT.out w2 K2.out).drop 1)
          have HU := hid (rd_lt r)
          have HKL : Hid ((rd r).2 ≤ n - 1) := hid (by have := rd_le r; have := HLN.out; omega)
          have HV1 := hid (fun (h : (rd r).2 = 0) => vg_1n (r := r) b1 h)
          have HV2 := hid (fun (h : 0 < (rd r).2) => vg_1s (r := r) b1 h)
          have hc := refRead_c (some ⟨ab, off + 1, none⟩) (n - 1) (c - 1) r w2 0 w2.heap.size HB1.out (by have := HN.out; omega)
          generalize (rd r).1 = u at *
          generalize (rd r).2 = kk at *
          clear HB1
          go_wp2_with fail
          refine hc.mono ?_
          rintro e w' ⟨rfl, rfl⟩
          clear hc
          by_cases hk : kk = 0
          · subst hk
            have VG := hid (HV1.out rfl)
            clear HV1 HV2
            obtain ⟨p0, p1, p2, p3, pf⟩ := Blk.v4 R2.out
            go_wp2
            refine bodyPost_ret (v := .tuple #[(.agg #[.int .i64 (0), .int .i64 (0), .string (str ([])), .int .u64 ((0 : Nat) : Int)]), .int .i64 0]) (by simp [results, Tryz.results12, go_sem, p0, p1, p2, p3, strn]) rfl ?_
            exact getQ_none VG.out (bel4 K2.out (Nat.le_refl _) _ _ _ _)
          · have f1 : ((kk : Int) == 0) = false := beq_false_of_ne (by omega)
            have f2 : wrap64 (1 + (kk : Int)) = ((1 + kk : Nat) : Int) := by have := HKL.out; have := HN.out; unfold wrap64; omega
            have VG := hid (HV2.out (by omega))
            have hc := refUnfolded_c u w2 HU.out
            obtain ⟨x0, x1, x2, x3, xf⟩ := Blk.v4 V2.out
            clear HV1 HV2
            go_wp2_with fail
            refine hc.mono ?_
            rintro e w' ⟨rfl, rfl⟩
            clear hc
            go_wp2_with fail
            go_meet
            case rel => exact ⟨(1, unfold_ u, [], 0), 1 + kk, congrArg (Value.int .i64) (by first | exact f2 | rfl | omega), hid (R2.out.far (Nat.ne_of_lt (Nat.lt_succ_self _)) _ _), hid (V2.out.store 1 (.int .i64 (unfold_ u))), hid (K2.out.setCell (p := ⟨w.heap.size + 1, 1, none⟩) (Nat.le_succ _) _), hid ⟨by show (0 : Nat) < _; decide, fun h => (by cases h), fun _ => VG.out⟩⟩
      by_cases b2 : b.toNat = 2
      · obtain rfl : B = 2 := by have := HBE.out; omega
        cases r with
        | nil =>
          as_aux_lemma =>
          obtain rfl : n = 1 := by have := HLN.out; simpa using this
          have VG := hid (vg_2n b2)
          obtain ⟨p0, p1, p2, p3, pf⟩ := Blk.v4 R2.out
          go_wp2
          refine bodyPost_ret (v := .tuple #[(.agg #[.int .i64 (0), .int .i64 (0), .string (str ([])), .int .u64 ((0 : Nat) : Int)]), .int .i64 0]) (by simp [results, Tryz.results12, go_sem, p0, p1, p2, p3, strn]) rfl ?_
          exact getQ_none VG.out (bel4 K2.out (Nat.le_refl _) _ _ _ _)
        | cons c1 r1 =>
          have d1 : decide ((n : Int) < 2) = false := by have := HLN.out; simp at this; simp; omega
          have l5 : (1 : Int) < (n : Int) := by have := HLN.out; simp at this; omega
          have k1 : w2.cell? ⟨ab, off + 1, none⟩ = some (.int .u8 (c1.toNat : Int)) := by
            obtain ⟨g', off', hA, _, _, hcl⟩ := (BT.out w2 K2.out).2 (by omega)
            injection hA with hA
            injection hA with hA hO
            subst hA hO
            exact hcl 1 _ rfl
          have wc1 := kind_w c1
          by_cases hc1 : c1.toNat ≤ 1
          · as_aux_lemma =>
            have d2 : decide ((1 : Int) < (c1.toNat : Int)) = false := by simp; omega
            have VG := hid (vg_2t (r := r1) b2 hc1)
            have HV : Hid (vRight (2, (c1.toNat : Int), [], 0) = true) := hid (by rcases (show c1.toNat = 0 ∨ c1.toNat = 1 by omega) with e | e <;> rw [vR2, e] <;> rfl)
            obtain ⟨x0, x1, x2, x3, xf⟩ := Blk.v4 V2.out
            clear hc1
            go_wp2_with fail
            go_meet
            case rel => exact ⟨(2, (c1.toNat : Int), [], 0), 2, rfl, hid (R2.out.far (Nat.ne_of_lt (Nat.lt_succ_self _)) _ _), hid (V2.out.store 1 (.int .i64 (c1.toNat : Int))), hid (K2.out.setCell (p := ⟨w.heap.size + 1, 1, none⟩) (Nat.le_succ _) _), hid ⟨by show (0 : Nat) < _; decide, fun h => (by rw [HV.out] at h; cases h), fun _ => VG.out⟩⟩
          · as_aux_lemma =>
            have d2 : decide ((1 : Int) < (c1.toNat : Int)) = true := by simp; omega
            have VG := hid (vg_2f (r := r1) b2 hc1)
            clear hc1
            obtain ⟨p0, p1, p2, p3, pf⟩ := Blk.v4 R2.out
            go_wp2
            refine bodyPost_ret (v := .tuple #[(.agg #[.int .i64 (0), .int .i64 (0), .string (str ([])), .int .u64 ((0 : Nat) : Int)]), .int .i64 0]) (by simp [results, Tryz.results12, go_sem, p0, p1, p2, p3, strn]) rfl ?_
            exact getQ_none VG.out (bel4 K2.out (Nat.le_refl _) _ _ _ _)
      by_cases b3 : b.toNat = 3
      · obtain rfl : B = 3 := by have := HBE.out; omega
        by_cases hc1 : c = 1
        · as_aux_lemma =>
          obtain rfl : n = 1 := by have := HLN.out; have := HNC.out; omega
          subst hc1
          have hr0 : r = [] := List.eq_nil_of_length_eq_zero (by have := HLN.out; omega)
          subst hr0
          have VG := hid (vg_3n (r := []) b3 (.inl rfl))
          go_wp2_with fail
          refine (refRead_c (some ⟨ab, off, none⟩) 0 0 [] w2 0 w2.heap.size (Bts.nil _ _ _ _) (by decide)).mono ?_
          rintro e w' ⟨rfl, rfl⟩
          rw [show (rd []).1 = 0 from rfl, show (rd []).2 = 0 from rfl]
          obtain ⟨p0, p1, p2, p3, pf⟩ := Blk.v4 R2.out
          go_wp2
          refine bodyPost_ret (v := .tuple #[(.agg #[.int .i64 (0), .int .i64 (0), .string (str ([])), .int .u64 ((0 : Nat) : Int)]), .int .i64 0]) (by simp [results, Tryz.results12, go_sem, p0, p1, p2, p3, strn]) rfl ?_
          exact getQ_none VG.out (bel4 K2.out (Nat.le_refl _) _ _ _ _)
        · as_aux_lemma =>
          have e1 : decide ((c : Int) = 1) = false := by simp; omega
          have HB1 : Hid (Bts w2 0 w2.heap.size (some ⟨ab, off + 1, none⟩) (n - 1) r) := hid ((BT.out w2 K2.out).drop 1)
          have HU := hid (rd_lt r)
          have HKL : Hid ((rd r).2 ≤ n - 1) := hid (by have := rd_le r; have := HLN.out; omega)
          have HV1 := hid (fun (h : (rd r).2 = 0 ∨ 64 < (rd r).1 ∨ r.length - (rd r).2 < (rd r).1) => vg_3n (r := r) b3 h)
          have HV2 := hid (fun (h : ¬ ((rd r).2 = 0 ∨ 64 < (rd r).1 ∨ r.length - (rd r).2 < (rd r).1)) => vg_3s (r := r) b3 h)
          have hc := refRead_c (some ⟨ab, off + 1, none⟩) (n - 1) (c - 1) r w2 0 w2.heap.size HB1.out (by have := HN.out; omega)
          generalize (rd r).1 = u at *
          generalize (rd r).2 = kk at *
          clear HB1
          go_wp2_with fail
          refine hc.mono ?_
          rintro e w' ⟨rfl, rfl⟩
          clear hc
          by_cases hk : kk = 0
          · subst hk
            have VG := hid (HV1.out (.inl rfl))
            clear HV1 HV2
            obtain ⟨p0, p1, p2, p3, pf⟩ := Blk.v4 R2.out
            go_wp2
            refine bodyPost_ret (v := .tuple #[(.agg #[.int .i64 (0), .int .i64 (0), .string (str ([])), .int .u64 ((0 : Nat) : Int)]), .int .i64 0]) (by simp [results, Tryz.results12, go_sem, p0, p1, p2, p3, strn]) rfl ?_
            exact getQ_none VG.out (bel4 K2.out (Nat.le_refl _) _ _ _ _)
          have f1 : ((kk : Int) == 0) = false := beq_false_of_ne (by omega)
          have HNP : Hid (1 ≤ n) := hid (by have := HLN.out; omega)
          have HQ : Hid (n - 1 - kk = r.length - kk) := hid (by have := HLN.out; omega)
          have HQ2 : Hid (n - 1 - kk ≤ 1000) := hid (by have := HN.out; omega)
          by_cases h64 : 64 < u
          · obtain ⟨f2, f2n⟩ : decide ((64 : Int) < (u : Int)) = true ∧ decide (64 < u) = true := dlt h64
            have VG := hid (HV1.out (.inr (.inl h64)))
            clear HV1 HV2 h64 hk
            obtain ⟨p0, p1, p2, p3, pf⟩ := Blk.v4 R2.out
            go_wp2
            refine bodyPost_ret (v := .tuple #[(.agg #[.int .i64 (0), .int .i64 (0), .string (str ([])), .int .u64 ((0 : Nat) : Int)]), .int .i64 0]) (by simp [results, Tryz.results12, go_sem, p0, p1, p2, p3, strn]) rfl ?_
            exact getQ_none VG.out (bel4 K2.out (Nat.le_refl _) _ _ _ _)
          obtain ⟨f2, f2n⟩ : decide ((64 : Int) < (u : Int)) = false ∧ decide (64 < u) = false := dge h64
          have HU64 : Hid (u ≤ 64) := hid (by omega)
          by_cases hll : r.length - kk < u
          · obtain ⟨f3, f3n⟩ := dlt (show n - 1 - kk < u by rw [HQ.out]; exact hll)
            have VG := hid (HV1.out (.inr (.inr hll)))
            clear HV1 HV2 h64 hll hk
            have g1 := wC HN.out
            have g2 := wD HN.out HKL.out HNP.out
            have g3 := wE HQ2.out
            generalize n - 1 - kk = q1 at *
            obtain ⟨p0, p1, p2, p3, pf⟩ := Blk.v4 R2.out
            go_wp2
            refine bodyPost_ret (v := .tuple #[(.agg #[.int .i64 (0), .int .i64 (0), .string (str ([])), .int .u64 ((0 : Nat) : Int)]), .int .i64 0]) (by simp [results, Tryz.results12, go_sem, p0, p1, p2, p3, strn]) rfl ?_
            exact getQ_none VG.out (bel4 K2.out (Nat.le_refl _) _ _ _ _)
          obtain ⟨f3, f3n⟩ := dge (show ¬ n - 1 - kk < u by rw [HQ.out]; exact hll)
          have VG := hid (HV2.out (by omega))
          have HUL : Hid (1 + kk + u ≤ n) := hid (by have := HQ.out; have := HKL.out; have := HLN.out; omega)
          obtain ⟨P, hP⟩ : ∃ P, P = 1 + kk := ⟨_, rfl⟩
          obtain ⟨Q, hQ⟩ : ∃ Q, Q = 1 + kk + u := ⟨_, rfl⟩
          obtain ⟨T, hT⟩ : ∃ T, T = kk + u := ⟨_, rfl⟩
          have HB2 : Hid (Bts w2 0 w2.heap.size (some ⟨ab, off + P, none⟩) u ((r.drop kk).take u)) := hid (by
            have h1 := ((BT.out w2 K2.out).drop (1 + kk)).take (k := u) (by have := HUL.out; omega)
            rwa [drop1, ← hP] at h1)
          have HV3 : Hid (vRight (3, 0, (r.drop kk).take u, 0) = true) := hid (by rw [vR3]; simp; omega)
          have HK10 : Hid (1 + kk + u ≤ 1000) := hid (Nat.le_trans HUL.out HN.out)
          have HK11 : Hid (1 + kk + u ≤ c) := hid (Nat.le_trans HUL.out HNC.out)
          have HUC : Hid (c = P → u = 0) := hid (fun h => by have := HK11.out; omega)
          have HQC : Hid (c = P → Q = P ∧ T = kk) := hid (fun h => by have := HUC.out h; omega)
          have s0 : (0 : Int) ≤ (P : Int) := by omega
          have s1 : (P : Int) ≤ (Q : Int) := by omega
          have s2 : (Q : Int) ≤ (c : Int) := by have := HK11.out; omega
          have s3 : Q - P = u := by omega
          have s4 : (0 : Int) ≤ (Q : Int) := by omega
          have f4 : wrap64 (1 + (kk : Int)) = (P : Int) := by rw [hP]; exact wA (by have := HK10.out; omega)
          have f6 : wrap64 ((P : Int) + (u : Int)) = (Q : Int) := by rw [wB (by have := HK10.out; clear f4; omega), hP, hQ]
          have f7 : wrap64 ((kk : Int) + (u : Int)) = (T : Int) := by rw [wB (by have := HK10.out; clear f4 f6; omega), hT]
          have f8 : wrap64 (1 + (T : Int)) = (Q : Int) := by rw [wA (by have := HK10.out; clear f4 f6 f7; omega), hT, hQ, Nat.add_assoc]
          have f5 := wF (u := u) (by have := HK10.out; clear f4 f6 f7 f8; omega)
          have HQE := hid hQ
          clear HV1 HV2 hll h64 hk hP hQ hT
          have g1 := wC HN.out
          have g2 := wD HN.out HKL.out HNP.out
          have g3 := wE HQ2.out
          obtain ⟨x0, x1, x2, x3, xf⟩ := Blk.v4 V2.out
          generalize n - 1 - kk = q1 at *
          go_upto_region 23 with fail
          by_cases hcq : c = P
          · obtain ⟨hq0, ht0⟩ := HQC.out hcq
            have hu0 := HUC.out hcq
            subst hq0 ht0
            subst hu0
            subst hcq
            have hcv := run_str (P := Tryz.prog) (c := 0) 22 9 5 Tryz.underlying22 Tryz.underlying5 Tryz.underlying9 (Bts.nil w2 0 0 (some ⟨ab, off, none⟩))
            rw [List.take_zero] at VG HV3
            have f6' : wrap64 (c : Int) = (c : Int) := by simpa using f6
            have f7' : wrap64 (T : Int) = (T : Int) := by simpa using f7
            clear HB2 HUC HQC f6 f7 f5 s1 s3
            go_wp2_with fail
            go_meet
            case rel => exact ⟨(3, 0, [], 0), c, congrArg (Value.int .i64) (by first | exact f8 | rfl), hid (R2.out.far (Nat.ne_of_lt (Nat.lt_succ_self _)) _ _), hid (V2.out.store 2 (.string (str []))), hid (K2.out.setCell (p := ⟨w.heap.size + 1, 2, none⟩) (Nat.le_succ _) _), hid ⟨by show (0 : Nat) < _; decide, fun h => (by rw [HV3.out] at h; cases h), fun _ => (by rw [HQE.out]; exact VG.out)⟩⟩
          · have hcv := run_str (P := Tryz.prog) (c := c - P) 22 9 5 Tryz.underlying22 Tryz.underlying5 Tryz.underlying9 HB2.out
            generalize (r.drop kk).take u = S at *
            go_wp2_with fail
            go_meet
            case rel => exact ⟨(3, 0, S, 0), Q, congrArg (Value.int .i64) (by first | exact f8 | rfl | omega), hid (R2.out.far (Nat.ne_of_lt (Nat.lt_succ_self _)) _ _), hid (V2.out.store 2 (.string (str (S)))), hid (K2.out.setCell (p := ⟨w.heap.size + 1, 2, none⟩) (Nat.le_succ _) _), hid ⟨by show (0 : Nat) < _; decide, fun h => (by rw [HV3.out] at h; cases h), fun _ => (by rw [HQE.out]; exact VG.out)⟩⟩
      by_cases b4 : b.toNat = 4
      · obtain rfl : B = 4 := by have := HBE.out; omega
        by_cases h9 : n < 9
        · as_aux_lemma =>
          have d1 : decide ((n : Int) < 9) = true := by simp; omega
          have VG := hid (vg_4n (r := r) b4 (by have := HLN.out; omega))
          obtain ⟨p0, p1, p2, p3, pf⟩ := Blk.v4 R2.out
          go_wp2
          refine bodyPost_ret (v := .tuple #[(.agg #[.int .i64 (0), .int .i64 (0), .string (str ([])), .int .u64 ((0 : Nat) : Int)]), .int .i64 0]) (by simp [results, Tryz.results12, go_sem, p0, p1, p2, p3, strn]) rfl ?_
          exact getQ_none VG.out (bel4 K2.out (Nat.le_refl _) _ _ _ _)
        · as_aux_lemma =>
          have d1 : decide ((n : Int) < 9) = false := by simp; omega
          have HR8 : Hid (8 ≤ r.length) := hid (by have := HLN.out; omega)
          have HCB : Hid (∀ wx, Below w.heap.size w wx → ∀ k, ∀ hk : k < r.length, wx.cell? ⟨ab, off + (k + 1), none⟩ = some (.int .u8 (r[k].toNat : Int))) := hid (fun wx hx k hk => by
            obtain ⟨g', off', hA, _, _, hcl⟩ := (BT.out wx hx).2 (by have := HLN.out; omega)
            injection hA with hA
            injection hA with hA hO
            subst hA hO
            exact hcl (k + 1) _ (by rw [bs_cons, List.getElem?_cons_succ]; exact bs_get r k hk))
          have HNM : Hid (∀ k, k < 8 → (k + 1 : Nat) < n) := hid (fun k hk => by omega)
          clear BT h9
          rw [wb]
          clear wb
          go_wp2_with fail
          go_loopg [10] 8 (fun kk iv wr => ∃ jj : Nat, iv = .int .i64 (jj : Int) ∧ Hid (kk = jj) ∧ Hid (jj ≤ 8) ∧ Hid (Blk wr w.heap.size 26 #[.int .i64 0, .int .i64 0, .string ⟨#[]⟩, .int .u64 0]) ∧ Hid (Blk wr (w.heap.size + 1) 26 #[.int .i64 4, .int .i64 0, .string ⟨#[]⟩, .int .u64 ((unle ((r.take 8).drop jj) : Nat) : Int)]) ∧ Hid (Below w.heap.size w wr))
          case atStart => exact ⟨8, rfl, hid rfl, hid (Nat.le_refl _), R2, (by rw [List.drop_of_length_le (by simp; omega)]; exact V2), K2⟩
          case round =>
            obtain ⟨jj, rfl, hgj, hk8, hR, hV, hK⟩ := hrel
            clear R2 V2 K2 c2
            rcases jj with _ | k
            · as_aux_lemma =>
              have HV := hid (fun (h : fCanon (unle (r.take 8)) = unle (r.take 8)) => vg_4t (r := r) b4 HR8.out h)
              have HF := hid (fun (h : ¬ fCanon (unle (r.take 8)) = unle (r.take 8)) => vg_4f (r := r) b4 HR8.out h)
              have HUL := hid (unle_tlt r 8)
              rw [List.drop_zero] at hV
              go_wp2_with fail
              go_meet
              case rel =>
                refine ⟨(4, 0, [], unle (r.take 8)), 9, rfl, hR, hV, hK, hid ⟨HUL.out, fun h => HF.out ?_, fun h => HV.out ?_⟩⟩
                · intro hc
                  rw [vR4, hc] at h
                  simp at h
                · rw [vR4] at h
                  simpa using h
            · as_aux_lemma =>
              have hk := hk8.out
              have hkl : k < r.length := by have := HR8.out; omega
              obtain ⟨M, hM⟩ : ∃ M, M = k + 1 := ⟨_, rfl⟩
              have a1 := HCB.out wr hK.out k hkl
              have hun : unle ((r.take 8).drop k) = (r[k]'hkl).toNat + 256 * unle ((r.take 8).drop (k + 1)) := by
                rw [List.drop_eq_getElem_cons (by simp; omega), unle]
                simp
              have hlt : unle ((r.take 8).drop (k + 1)) < 256 ^ 7 := Nat.lt_of_lt_of_le (unle_lt _) (Nat.pow_le_pow_right (by decide) (by simp; omega))
              generalize r[k]'hkl = bb at *
              rw [← hM] at a1 hun hlt hV ⊢
              obtain ⟨F, hF⟩ : ∃ F, F = unle ((r.take 8).drop M) := ⟨_, rfl⟩
              rw [← hF] at hun hlt hV
              obtain ⟨G, hG⟩ : ∃ G, G = F * 256 := ⟨_, rfl⟩
              obtain ⟨H, hH⟩ : ∃ H, H = G + bb.toNat := ⟨_, rfl⟩
              have hb256 := bb.toNat_lt
              have p7 : 256 ^ 7 = 72057594037927936 := by decide
              rw [p7] at hlt
              have e1 : IntKind.u64.wrap ((F : Int) * 256) = (G : Int) := by rw [IntKind.wrap_u64, hG]; omega
              have e2 : IntKind.u64.wrap ((G : Int) + (bb.toNat : Int)) = (H : Int) := by rw [IntKind.wrap_u64, hH, hG]; omega
              have e3 : IntKind.u64.wrap (bb.toNat : Int) = (bb.toNat : Int) := by rw [IntKind.wrap_u64]; omega
              have HHE : Hid (unle ((r.take 8).drop k) = H) := hid (by omega)
              have m1 : decide ((0 : Int) < (M : Int)) = true := by simp; omega
              have m1n : decide (0 < M) = true := by simp; omega
              have m2 : (M : Int) < (n : Int) := by have := HNM.out k (by omega); omega
              have m3 : (0 : Int) ≤ (M : Int) := by omega
              have m4 : wrap64 ((M : Int) - 1) = (k : Int) := by clear e1 e2 e3; unfold wrap64; omega
              have HK8 : Hid (k ≤ 8) := hid (by clear e1 e2 e3 m4; omega)
              generalize (bb.toNat : Int) = ib at *
              obtain ⟨x0, x1, x2, x3, xf⟩ := Blk.v4 hV.out
              clear hun hlt hF hG hH hb256 p7 hk hkl hk8 hM
              go_wp2_with fail
              refine wp_region_held_drew (S := fun _ => True) (by kernel_rfl) trivial (fun HS => ?_)
              have HVS : Hid (Blk (wr.drew.setCell ⟨w.heap.size + 1, 3, none⟩ (.int .u64 (H : Int))) (w.heap.size + 1) 26 _) := hid ((hV.out.bel (Below.refl _ _).drew hV.out.lt).store 3 (.int .u64 (H : Int)))
              have HRS := hid ((hR.out.bel (Below.refl wr.heap.size wr).drew hR.out.lt).far (h' := w.heap.size + 1) (Nat.ne_of_lt (Nat.lt_succ_self _)) 3 (.int .u64 (H : Int)))
              have HKS := hid (hK.out.drew.setCell (p := ⟨w.heap.size + 1, 3, none⟩) (Nat.le_succ _) (.int .u64 (H : Int)))
              have a1 : wr.drew.cell? ⟨ab, off + M, none⟩ = some (.int .u8 ib) := a1
              have x3 : wr.drew.cell? ⟨w.heap.size + 1, 3, none⟩ = some (.int .u64 (F : Int)) := x3
              have xf : ∀ i, wr.drew.frozen? ⟨w.heap.size + 1, i, none⟩ = false := xf
              generalize wr.drew = w9 at *
              refine wpAnyH_take (i := 0) (oi := ?oi0) (v := ?v0) ?hi0 (by kernel_rfl) (by kernel_rfl) (by kernel_rfl) ?hQ0 ?hy0 HS ?rest0
              case hi0 => simp only [List.getElem?_toArray, List.getElem?_cons_zero]; exact rfl
              case hQ0 => exact fun _ _ _ h => h
              case hy0 =>
                refine Or.inl ⟨by rfl, ?_⟩
                intro wS hSw
                go_simp
                try with_reducible rfl
              try simp only [Act.put, List.setIfInBounds_toArray, List.set_cons_zero, List.set_cons_succ]
              refine wpAnyH_take (i := 3) (oi := ?oi3) (v := ?v3) ?hi3 (by kernel_rfl) (by kernel_rfl) (by kernel_rfl) ?hQ3 ?hy3 HS ?rest3
              case hi3 => simp only [List.getElem?_toArray, List.getElem?_cons_succ, List.getElem?_cons_zero]; exact rfl
              case hQ3 => exact fun _ _ _ h => h
              case hy3 =>
                refine Or.inl ⟨by rfl, ?_⟩
                intro wS hSw
                go_simp
                try with_reducible rfl
              try simp only [Act.put, List.setIfInBounds_toArray, List.set_cons_zero, List.set_cons_succ]
              refine wpAnyH_take (i := 4) (oi := ?oi4) (v := ?v4) ?hi4 (by kernel_rfl) (by kernel_rfl) (by kernel_rfl) ?hQ4 ?hy4 HS ?rest4
              case hi4 => simp only [List.getElem?_toArray, List.getElem?_cons_succ, List.getElem?_cons_zero]; exact rfl
              case hQ4 => exact fun _ _ _ h => h
              case hy4 =>
                refine Or.inl ⟨by rfl, ?_⟩
                intro wS hSw
                go_simp
                try with_reducible rfl
              try simp only [Act.put, List.setIfInBounds_toArray, List.set_cons_zero, List.set_cons_succ]
              refine wpAnyH_take (i := 5) (oi := ?oi5) (v := ?v5) ?hi5 (by kernel_rfl) (by kernel_rfl) (by kernel_rfl) ?hQ5 ?hy5 HS ?rest5
              case hi5 => simp only [List.getElem?_toArray, List.getElem?_cons_succ, List.getElem?_cons_zero]; exact rfl
              case hQ5 => exact fun _ _ _ h => h
              case hy5 =>
                refine Or.inl ⟨by rfl, ?_⟩
                intro wS hSw
                go_simp
                try with_reducible rfl
              try simp only [Act.put, List.setIfInBounds_toArray, List.set_cons_zero, List.set_cons_succ]
              refine wpAnyH_ready (rs := [1, 6]) (by kernel_rfl) (by simp) ?_
              refine (AllReadyH.cons (o := ?o1) ?ho1 (fun K hK => ?step1) (AllReadyH.cons (o := ?o6) ?ho6 (fun K hK => ?step6) AllReadyH.nil))
              case ho1 => simp only [List.getElem?_toArray, List.getElem?_cons_succ, List.getElem?_cons_zero]; exact rfl
              case ho6 => simp only [List.getElem?_toArray, List.getElem?_cons_succ, List.getElem?_cons_zero]; exact rfl
              case step1 =>
                go_simp
                refine hK.out _ _ trivial (fun HS => ?_)
                clear hK K
                try simp only [Act.put, List.setIfInBounds_toArray, List.set_cons_zero, List.set_cons_succ]
                refine wpAnyH_take (i := 2) (oi := ?oia2) (v := ?va2) ?hia2 (by kernel_rfl) (by kernel_rfl) (by kernel_rfl) ?hQa2 ?hya2 HS ?resta2
                case hia2 => simp only [List.getElem?_toArray, List.getElem?_cons_succ, List.getElem?_cons_zero]; exact rfl
                case hQa2 => exact fun _ _ _ h => h
                case hya2 =>
                  refine Or.inl ⟨by rfl, ?_⟩
                  intro wS hSw
                  go_simp
                  try with_reducible rfl
                try simp only [Act.put, List.setIfInBounds_toArray, List.set_cons_zero, List.set_cons_succ]
                refine wpAnyH_ready (rs := [6]) (by kernel_rfl) (by simp) ?_
                refine AllReadyH.cons (o := ?oa6) ?hoa6 (fun K hK => ?stepa6) AllReadyH.nil
                case hoa6 => simp only [List.getElem?_toArray, List.getElem?_cons_succ, List.getElem?_cons_zero]; exact rfl
                go_simp
                refine hK.out _ _ trivial (fun HS => ?_)
                clear hK K
                try simp only [Act.put, List.setIfInBounds_toArray, List.set_cons_zero, List.set_cons_succ]
                refine wpAnyH_take (i := 7) (oi := ?oia7) (v := ?va7) ?hia7 (by kernel_rfl) (by kernel_rfl) (by kernel_rfl) ?hQa7 ?hya7 HS ?resta7
                case hia7 => simp only [List.getElem?_toArray, List.getElem?_cons_succ, List.getElem?_cons_zero]; exact rfl
                case hQa7 => exact fun _ _ _ h => h
                case hya7 =>
                  refine Or.inl ⟨by rfl, ?_⟩
                  intro wS hSw
                  go_simp
                  try with_reducible rfl
                try simp only [Act.put, List.setIfInBounds_toArray, List.set_cons_zero, List.set_cons_succ]
                refine wpAnyH_take (i := 8) (oi := ?oia8) (v := ?va8) ?hia8 (by kernel_rfl) (by kernel_rfl) (by kernel_rfl) ?hQa8 ?hya8 HS ?resta8
                case hia8 => simp only [List.getElem?_toArray, List.getElem?_cons_succ, List.getElem?_cons_zero]; exact rfl
                case hQa8 => exact fun _ _ _ h => h
                case hya8 =>
                  refine Or.inl ⟨by rfl, ?_⟩
                  intro wS hSw
                  go_simp
                  try with_reducible rfl
                try simp only [Act.put, List.setIfInBounds_toArray, List.set_cons_zero, List.set_cons_succ]
                refine wpAnyH_take (i := 9) (oi := ?oia9) (v := ?va9) ?hia9 (by kernel_rfl) (by kernel_rfl) (by kernel_rfl) ?hQa9 ?hya9 HS ?resta9
                case hia9 => simp only [List.getElem?_toArray, List.getElem?_cons_succ, List.getElem?_cons_zero]; exact rfl
                case hQa9 => exact fun _ _ _ h => h
                case hya9 =>
                  refine Or.inl ⟨by rfl, ?_⟩
                  intro wS hSw
                  go_simp
                  try with_reducible rfl
                try simp only [Act.put, List.setIfInBounds_toArray, List.set_cons_zero, List.set_cons_succ]
                refine wpAnyH_ready (rs := [10]) (by kernel_rfl) (by simp) ?_
                refine AllReadyH.cons (o := ?oa10) ?hoa10 (fun K hK => ?stepa10) AllReadyH.nil
                case hoa10 => simp only [List.getElem?_toArray, List.getElem?_cons_succ, List.getElem?_cons_zero]; exact rfl
                rw [if_pos (by rfl)]
                go_simp
                refine hK.out _ _ trivial (fun HS => ?_)
                clear hK K
                try simp only [Act.put]
                refine wpAnyH_done (by kernel_rfl) ?_ _
                have HV9 := hid (show Blk (w9.setCell ⟨w.heap.size + 1, 3, none⟩ (.int .u64 (H : Int))) (w.heap.size + 1) 26 #[.int .i64 4, .int .i64 0, .string ⟨#[]⟩, .int .u64 (H : Int)] from by simpa using HVS.out)
                clear HVS hV hR hK x0 x1 x2 x3 xf a1 HS
                generalize w9.setCell ⟨w.heap.size + 1, 3, none⟩ (.int .u64 (H : Int)) = w10 at *
                go_wp2
                go_roundg k
                case measure => rw [hgj.out]; exact Nat.lt_succ_self _
                case rel => exact ⟨k, congrArg (Value.int .i64) (by first | exact m4 | rfl), hid rfl, HK8, HRS, (by rw [HHE.out]; exact HV9), HKS⟩
              case step6 =>
                go_simp
                refine hK.out _ _ trivial (fun HS => ?_)
                clear hK K
                try simp only [Act.put, List.setIfInBounds_toArray, List.set_cons_zero, List.set_cons_succ]
                refine wpAnyH_take (i := 7) (oi := ?oib7) (v := ?vb7) ?hib7 (by kernel_rfl) (by kernel_rfl) (by kernel_rfl) ?hQb7 ?hyb7 HS ?restb7
                case hib7 => simp only [List.getElem?_toArray, List.getElem?_cons_succ, List.getElem?_cons_zero]; exact rfl
                case hQb7 => exact fun _ _ _ h => h
                case hyb7 =>
                  refine Or.inl ⟨by rfl, ?_⟩
                  intro wS hSw
                  go_simp
                  try with_reducible rfl
                try simp only [Act.put, List.setIfInBounds_toArray, List.set_cons_zero, List.set_cons_succ]
                refine wpAnyH_ready (rs := [1]) (by kernel_rfl) (by simp) ?_
                refine AllReadyH.cons (o := ?ob1) ?hob1 (fun K hK => ?stepb1) AllReadyH.nil
                case hob1 => simp only [List.getElem?_toArray, List.getElem?_cons_succ, List.getElem?_cons_zero]; exact rfl
                go_simp
                refine hK.out _ _ trivial (fun HS => ?_)
                clear hK K
                try simp only [Act.put, List.setIfInBounds_toArray, List.set_cons_zero, List.set_cons_succ]
                refine wpAnyH_take (i := 2) (oi := ?oib2) (v := ?vb2) ?hib2 (by kernel_rfl) (by kernel_rfl) (by kernel_rfl) ?hQb2 ?hyb2 HS ?restb2
                case hib2 => simp only [List.getElem?_toArray, List.getElem?_cons_succ, List.getElem?_cons_zero]; exact rfl
                case hQb2 => exact fun _ _ _ h => h
                case hyb2 =>
                  refine Or.inl ⟨by rfl, ?_⟩
                  intro wS hSw
                  go_simp
                  try with_reducible rfl
                try simp only [Act.put, List.setIfInBounds_toArray, List.set_cons_zero, List.set_cons_succ]
                refine wpAnyH_take (i := 8) (oi := ?oib8) (v := ?vb8) ?hib8 (by kernel_rfl) (by kernel_rfl) (by kernel_rfl) ?hQb8 ?hyb8 HS ?restb8
                case hib8 => simp only [List.getElem?_toArray, List.getElem?_cons_succ, List.getElem?_cons_zero]; exact rfl
                case hQb8 => exact fun _ _ _ h => h
                case hyb8 =>
                  refine Or.inl ⟨by rfl, ?_⟩
                  intro wS hSw
                  go_simp
                  try with_reducible rfl
                try simp only [Act.put, List.setIfInBounds_toArray, List.set_cons_zero, List.set_cons_succ]
                refine wpAnyH_take (i := 9) (oi := ?oib9) (v := ?vb9) ?hib9 (by kernel_rfl) (by kernel_rfl) (by kernel_rfl) ?hQb9 ?hyb9 HS ?restb9
                case hib9 => simp only [List.getElem?_toArray, List.getElem?_cons_succ, List.getElem?_cons_zero]; exact rfl
                case hQb9 => exact fun _ _ _ h => h
                case hyb9 =>
                  refine Or.inl ⟨by rfl, ?_⟩
                  intro wS hSw
                  go_simp
                  try with_reducible rfl
                try simp only [Act.put, List.setIfInBounds_toArray, List.set_cons_zero, List.set_cons_succ]
                refine wpAnyH_ready (rs := [10]) (by kernel_rfl) (by simp) ?_
                refine AllReadyH.cons (o := ?ob10) ?hob10 (fun K hK => ?stepb10) AllReadyH.nil
                case hob10 => simp only [List.getElem?_toArray, List.getElem?_cons_succ, List.getElem?_cons_zero]; exact rfl
                rw [if_pos (by rfl)]
                go_simp
                refine hK.out _ _ trivial (fun HS => ?_)
                clear hK K
                try simp only [Act.put]
                refine wpAnyH_done (by kernel_rfl) ?_ _
                have HV9 := hid (show Blk (w9.setCell ⟨w.heap.size + 1, 3, none⟩ (.int .u64 (H : Int))) (w.heap.size + 1) 26 #[.int .i64 4, .int .i64 0, .string ⟨#[]⟩, .int .u64 (H : Int)] from by simpa using HVS.out)
                clear HVS hV hR hK x0 x1 x2 x3 xf a1 HS
                generalize w9.setCell ⟨w.heap.size + 1, 3, none⟩ (.int .u64 (H : Int)) = w10 at *
                go_wp2
                go_roundg k
                case measure => rw [hgj.out]; exact Nat.lt_succ_self _
                case rel => exact ⟨k, congrArg (Value.int .i64) (by first | exact m4 | rfl), hid rfl, HK8, HRS, (by rw [HHE.out]; exact HV9), HKS⟩
      · as_aux_lemma =>
        have k0 : (B == 0) = false := by have := HBE.out; simp; omega
        have k1 : (B == 1) = false := by have := HBE.out; simp; omega
        have k2 : (B == 2) = false := by have := HBE.out; simp; omega
        have k3 : (B == 3) = false := by have := HBE.out; simp; omega
        have k4 : (B == 4) = false := by have := HBE.out; simp; omega
        have VG := hid (vg_x (b := b) (r := r) (by omega))
        obtain ⟨p0, p1, p2, p3, pf⟩ := Blk.v4 R2.out
        go_wp2
        refine bodyPost_ret (v := .tuple #[(.agg #[.int .i64 (0), .int .i64 (0), .string (str ([])), .int .u64 ((0 : Nat) : Int)]), .int .i64 0]) (by simp [results, Tryz.results12, go_sem, p0, p1, p2, p3, strn]) rfl ?_
        exact getQ_none VG.out (bel4 K2.out (Nat.le_refl _) _ _ _ _)
    case rest =>
      obtain ⟨x, k, rfl, hR, hV, hK, hX⟩ := hcut
      obtain ⟨y0, y1, y2, y3, yf⟩ := Blk.v4 (show Blk wc (w.heap.size + 1) 26 #[.int .i64 (vk x), .int .i64 (vn x), .string (str (vs x)), .int .u64 ((vf x : Nat) : Int)] from hV.out)
      have HC := hid (rRight_c x hX.out.1 wc)
      clear c2 wb V2 R2 K2
      as_aux_lemma =>
      go_wp2_with fail
      refine HC.out.mono ?_
      rintro e w5 ⟨rfl, hb5⟩
      have R5 := hR.out.bel hb5 hR.out.lt
      have V5 := hV.out.bel hb5 hV.out.lt
      have HB5 := hid (hK.out.trans (hb5.mono hK.out.size))
      obtain ⟨p0, p1, p2, p3, pf⟩ := Blk.v4 R5
      obtain ⟨q0, q1, q2, q3, qf⟩ := Blk.v4 (show Blk w5 (w.heap.size + 1) 26 #[.int .i64 (vk x), .int .i64 (vn x), .string (str (vs x)), .int .u64 ((vf x : Nat) : Int)] from V5)
      clear hR hV hK hb5 HC y0 y1 y2 y3 yf R5 V5
      rcases hv : vRight x with _ | _
      · have VG := hid (hX.out.2.1 hv)
        clear hX hv
        go_wp2
        refine bodyPost_ret (v := .tuple #[(.agg #[.int .i64 (0), .int .i64 (0), .string (str ([])), .int .u64 ((0 : Nat) : Int)]), .int .i64 0]) (by simp [results, Tryz.results12, go_sem, p0, p1, p2, p3, strn]) rfl ?_
        exact getQ_none VG.out (bel4 HB5.out (Nat.le_refl _) _ _ _ _)
      · have VG := hid (hX.out.2.2 hv)
        clear hX hv
        generalize hxk : vk x = xk at *
        generalize hxn : vn x = xn at *
        generalize hxs : str (vs x) = xs at *
        generalize hxf : ((vf x : Nat) : Int) = xf at *
        have HXK := hid hxk
        have HXN := hid hxn
        have HXS := hid hxs
        have HXF := hid hxf
        clear hxk hxn hxs hxf
        go_wp2
        refine bodyPost_ret (v := .tuple #[.agg #[.int .i64 xk, .int .i64 xn, .string xs, .int .u64 xf], .int .i64 (k : Int)]) (by simp [results, Tryz.results12, go_sem, p0, p1, p2, p3]) rfl ?_
        have h1 := getQ_some VG.out (bel4 HB5.out (Nat.le_refl w.heap.size) (.int .i64 xk) (.int .i64 xn) (.string xs) (.int .u64 xf))
        rw [HXK.out, HXN.out, HXS.out, HXF.out] at h1
        exact h1
end Go.Proofs.YtfjpnkchldjjmaaGreatDoor
