/- The walk of VaultFresh: for every input the law answers true. -/
import Derived.Test.YtaailoodhaibiaaVtLaw
namespace Go.Proofs.Ytaailoodhaibiaa
open Go.RowKit

def fv (k : Ky) (f : Nat → List UInt8) (j : Nat) : Va := ⟨(List.range j).map fun i => ⟨k, [UInt8.ofNat i], f i⟩, []⟩
theorem fv_len (k : Ky) (f : Nat → List UInt8) (j : Nat) : (fv k f j).L.length = j := by simp [fv]
theorem fv_seal {k : Ky} {f : Nat → List UInt8} {j : Nat} (h : k.right) (hl : (f j).length ≤ 500) : seE (fv k f j) k (f j).length = 0 ∧ seH (fv k f j) k (f j).length = j + 1 ∧ seS (fv k f j) k [UInt8.ofNat j] (f j) = fv k f (j + 1) := by
  have h1 : ¬ (¬ k.right ∨ 65536 < (f j).length) := by rintro (e | e); exact e h; omega
  have h2 : ¬ k ∈ (fv k f j).G := by simp [fv]
  refine ⟨(if_neg h1).trans (if_neg h2), ((if_neg h1).trans (if_neg h2)).trans (by rw [fv_len]), ((if_neg h1).trans (if_neg h2)).trans ?_⟩
  simp [fv, List.range_succ]
theorem ofNat_ne {i j : Nat} (hi : i < 256) (hj : j < 256) (h : i ≠ j) : UInt8.ofNat i ≠ UInt8.ofNat j := fun e => h (by
  have := congrArg UInt8.toNat e
  simp at this
  omega)
theorem fv_open {k : Ky} {f : Nat → List UInt8} {n i j : Nat} (hn : n ≤ 40) (hi : i < n) (hj : j < n) : opE (fv k f n) k [UInt8.ofNat j] (i + 1) = (if i = j then 0 else 51) ∧ opB (fv k f n) k [UInt8.ofNat j] (i + 1) = (if i = j then f i else []) := by
  have hx : opX (fv k f n) k [UInt8.ofNat j] (i + 1) = if i = j then some (f i) else none := by
    unfold opX behind fv
    rw [if_neg (by omega), Nat.add_sub_cancel, List.getElem?_map, List.getElem?_range hi]
    show (if k = k ∧ [UInt8.ofNat i] = [UInt8.ofNat j] then some (f i) else none) = _
    by_cases h : i = j
    · rw [if_pos ⟨rfl, by rw [h]⟩, if_pos h]
    · rw [if_neg (fun e => ofNat_ne (by omega) (by omega) h (by injection e.2)), if_neg h]
  have hG : ¬ k ∈ (fv k f n).G := by simp [fv]
  refine ⟨(if_neg hG).trans ?_, (if_neg hG).trans ?_⟩
  · rw [hx]
    by_cases h : i = j
    · rw [if_pos h, if_pos h]; rfl
    · rw [if_neg h, if_neg h]; rfl
  · rw [hx]
    by_cases h : i = j
    · rw [if_pos h, if_pos h]; rfl
    · rw [if_neg h, if_neg h]; rfl
set_option maxRecDepth 20000 in
set_option maxHeartbeats 8000000 in
theorem walkVaultFresh (A : Option Addr) (n c : Nat) (k : Ky) (w : World) (hA : RowsW w w.heap.size A n ∧ n ≤ 9223372036854775807) (hk : k.wf) :
    Calls Try.prog 5 #[.slice A n c, (.agg #[.int .i64 (k).t, .int .i64 (k).c, .int .i64 (k).e])] w fun e w' => e = .returned (.bool true) ∧ Below w.heap.size w w' := by
  obtain ⟨f, hfA⟩ : ∃ f : Nat → List UInt8, ∀ j, j < n → ∃ b off B m c, A = some ⟨b, off, none⟩ ∧ b < w.heap.size ∧ w.cell? ⟨b, off + j, none⟩ = some (.slice B m c) ∧ Bts w 0 w.heap.size B m (f j) ∧ m ≤ c := by
    have h : ∀ j, ∃ l : List UInt8, j < n → ∃ b off B m c, A = some ⟨b, off, none⟩ ∧ b < w.heap.size ∧ w.cell? ⟨b, off + j, none⟩ = some (.slice B m c) ∧ Bts w 0 w.heap.size B m l ∧ m ≤ c := fun j => by
      by_cases hj : j < n
      · obtain ⟨b, off, B, m, c, l, h1, h2, h3, h4, h5, _⟩ := hA.1 j hj
        exact ⟨l, fun _ => ⟨b, off, B, m, c, h1, h2, h3, h4, h5⟩⟩
      · exact ⟨[], fun e => absurd e hj⟩
    exact Classical.axiomOfChoice h
  have HA := hid hfA
  obtain ⟨m1, m2, hm1, hm2, hm3⟩ := min3 k
  have HM3 := hid hm3
  have HK := hid hk
  have hB := Blk.new w 32 #[.int .i64 k.t, .int .i64 k.c, .int .i64 k.e]
  have hb0 : Below w.heap.size w (w.alloc (.cells #[.int .i64 k.t, .int .i64 k.c, .int .i64 k.e] 32)) := (Below.refl _ _).alloc (Nat.le_refl _) _
  have hf := vfirst_c (w.alloc (.cells #[.int .i64 k.t, .int .i64 k.c, .int .i64 k.e] 32))
  have HB0 := hid hb0
  have HBK := hid hB
  clear hA hk hB hb0 hfA hm3
  go_enter Try.func5, Try.ntmps5
  go_wp2_with fail
  refine hf.mono ?_
  rintro e w1 ⟨rfl, hb1⟩
  have HB1 := hid (HB0.out.trans (hb1.mono HB0.out.size))
  have hK1 := HBK.out.keep (hb1.block w.heap.size HBK.out.lt)
  have HK1 := hid hK1
  obtain ⟨c0, c1, c2⟩ := blk_cells hK1
  clear hf hb1 HB0 HBK hK1
  by_cases h40 : 40 < n
  · have e1 : decide ((40 : Int) < (n : Int)) = true := by simp; omega
    clear h40
    go_wp2
    go_ret
    exact ⟨rfl, HB1.out⟩
  · have e1 : decide ((40 : Int) < (n : Int)) = false := by simp; omega
    have H40 : Hid (n ≤ 40) := hid (by omega)
    clear h40
    by_cases hr : k.right
    · have e2 : decide (m2 < 0) = false := by simp; exact Int.not_lt.1 fun e => HM3.out.1 e hr
      have HR := hid hr
      clear hr HM3
      go_wp2_with fail
      refine (new_on w w1 HB1.out (fun x => x = w.heap.size) (fun x hx => by subst hx; exact ⟨HK1.out.lt, Nat.le_refl _⟩)).mono ?_
      rintro e w2 ⟨g, rfl, hv2, hb2⟩
      have HK2 := hid (HK1.out.keep (hb2.block w.heap.size HK1.out.lt))
      have HV2 : Hid (VOn w w2 g (fv k f 0) (fun x => x = w.heap.size)) := hid hv2
      clear hv2 hb2 HB1 HK1 c0 c1 c2 hm1 hm2 e1 e2
      go_wp2_with fail
      go_loopg [33] n (fun kk iv wr => ∃ (j : Nat), iv = .int .i64 (j : Int) ∧ Hid (kk = n - j) ∧ Hid (j ≤ n) ∧ Hid (Blk wr w.heap.size 32 #[.int .i64 k.t, .int .i64 k.c, .int .i64 k.e]) ∧ Hid (VOn w wr g (fv k f j) (fun x => x = w.heap.size)))
      case atStart => exact ⟨0, rfl, hid (by omega), hid (Nat.zero_le _), HK2, HV2⟩
      case round =>
        obtain ⟨j, rfl, hgk, hj, hK, hV⟩ := hrel
        clear HV2 HK2
        rcases Nat.lt_or_ge j n with hlt | hge
        · have HLT := hid hlt
          obtain ⟨b, off, B, m, cB, rfl, hbl, hc0, hbt, hmc⟩ := HA.out j hlt
          have x0 : wr.cell? ⟨b, off + j, none⟩ = some (.slice B m cB) := (World.cell?_of_block (hV.out.below.block b hbl)).trans hc0
          have HBT := hid hbt
          have j1 : (0 : Int) ≤ (j : Int) := by omega
          have j2 : (j : Int) < (n : Int) := by omega
          have j3 : decide ((j : Int) < (n : Int)) = true := by simpa using hlt
          have j4 : decide (j < n) = true := by simpa using hlt
          have wj : wrap64 ((j : Int) + 1) = ((j + 1 : Nat) : Int) := by have := H40.out; unfold wrap64; omega
          have w8 : IntKind.u8.wrap (j : Int) = (j : Int) := wrap8 (by have := H40.out; omega)
          have wu1 : IntKind.u64.wrap (j : Int) = (j : Int) := wrapu (by omega) (by have := H40.out; omega)
          have wu2 : IntKind.u64.wrap ((j : Int) + 1) = ((j + 1 : Nat) : Int) := by rw [wrapu (by omega) (by have := H40.out; omega)]; rfl
          have kc := conv_byte wr (j := j) (by have := H40.out; omega)
          obtain ⟨c0, c1, c2⟩ := blk_cells hK.out
          have hbA : Below wr.heap.size wr (wr.alloc (.cells #[.int .u8 (j : Int)] 5)) := (Below.refl _ _).alloc (Nat.le_refl _) _
          obtain ⟨c0', c1', c2'⟩ := blk_cells (hK.out.keep (hbA.block w.heap.size hK.out.lt))
          clear hc0 hbl hmc hbt
          by_cases h500 : 500 < m
          · have e3 : decide ((500 : Int) < (m : Int)) = true := by simp; omega
            clear h500 hbA
            as_aux_lemma =>
            go_wp2
            go_ret
            exact ⟨rfl, hV.out.below⟩
          · have e3 : decide ((500 : Int) < (m : Int)) = false := by simp; omega
            have HL : Hid ((f j).length ≤ 500) := hid (by rw [HBT.out.len]; omega)
            have hse := seal_on w _ g (fv k f j) _ (hV.out.bel hbA) k HK.out [UInt8.ofNat j] B m cB (f j) ((HBT.out.below (hV.out.below.trans (hbA.mono hV.out.below.size)) (Nat.le_refl _)).wide (Nat.le_refl _) (Nat.le_trans hV.out.below.size hbA.size)) (by rw [fv_len]; have := H40.out; have := hj.out; omega)
            have HBA := hid hbA
            clear h500 hbA
            as_aux_lemma =>
            go_wp2_with fail
            refine hse.mono ?_
            rintro e w3 ⟨rfl, hv3, hk3⟩
            obtain ⟨h1, h2, h3⟩ := fv_seal (k := k) (f := f) (j := j) HR.out HL.out
            rw [h1, h2]
            rw [h3] at hv3
            have HV3 := hid hv3
            have HK3 := hid ((hK.out.keep (HBA.out.block w.heap.size hK.out.lt)).keep (hk3 _ rfl))
            clear h1 h2 h3 hv3 hk3 hse HBA hK hV c0 c1 c2 c0' c1' c2' kc x0
            go_wp2
            go_roundg (n - (j + 1))
            case measure => have := hgk.out; have := HLT.out; omega
            case rel => exact ⟨j + 1, congrArg (Value.int .i64) (by first | exact wj | omega | rfl), hid rfl, hid (by have := HLT.out; omega), HK3, HV3⟩
        · obtain rfl : j = n := by have := hj.out; omega
          have j3 : decide ((j : Int) < (j : Int)) = false := by simp
          have j4 : decide (j < j) = false := by simp
          clear hge hgk hj
          as_aux_lemma =>
          go_wp2_with fail
          go_loopg [64] j (fun kk iv wr => ∃ (i : Nat), iv = .int .i64 (i : Int) ∧ Hid (kk = j - i) ∧ Hid (i ≤ j) ∧ Hid (Blk wr w.heap.size 32 #[.int .i64 k.t, .int .i64 k.c, .int .i64 k.e]) ∧ Hid (VOn w wr g (fv k f j) (fun x => x = w.heap.size)))
          case atStart => exact ⟨0, rfl, hid (by omega), hid (Nat.zero_le _), hK, hV⟩
          case round =>
            clear hK hV
            obtain ⟨i, rfl, hgi, hi, hK, hV⟩ := hrel
            rcases Nat.lt_or_ge i j with hlt | hge
            · have HLT := hid hlt
              obtain ⟨b, off, B, m, cB, rfl, hbl, hc0, hbt, hmc⟩ := HA.out i hlt
              have x0 : wr.cell? ⟨b, off + i, none⟩ = some (.slice B m cB) := (World.cell?_of_block (hV.out.below.block b hbl)).trans hc0
              have HBT := hid hbt
              have i1 : (0 : Int) ≤ (i : Int) := by omega
              have i2 : (i : Int) < (j : Int) := by omega
              have i3 : decide ((i : Int) < (j : Int)) = true := by simpa using hlt
              have i4 : decide (i < j) = true := by simpa using hlt
              have wi : wrap64 ((i : Int) + 1) = ((i + 1 : Nat) : Int) := by have := H40.out; unfold wrap64; omega
              have wu1 : IntKind.u64.wrap (i : Int) = (i : Int) := wrapu (by omega) (by have := H40.out; omega)
              have wu2 : IntKind.u64.wrap ((i : Int) + 1) = ((i + 1 : Nat) : Int) := by rw [wrapu (by omega) (by have := H40.out; omega)]; rfl
              have HWI := hid wi
              clear hc0 hbl hmc hbt wi
              go_wp2_with fail
              go_loopg [71] j (fun kk iv wr => ∃ (q : Nat), iv = .int .i64 (q : Int) ∧ Hid (kk = j - q) ∧ Hid (q ≤ j) ∧ Hid (Blk wr w.heap.size 32 #[.int .i64 k.t, .int .i64 k.c, .int .i64 k.e]) ∧ Hid (VOn w wr g (fv k f j) (fun x => x = w.heap.size)))
              case atStart => exact ⟨0, rfl, hid (by omega), hid (Nat.zero_le _), hK, hV⟩
              case round =>
                clear hK hV x0
                obtain ⟨q, rfl, hgq, hq, hK, hV⟩ := hrel
                rcases Nat.lt_or_ge q j with hqlt | hqge
                · have HQL := hid hqlt
                  have q1 : (0 : Int) ≤ (q : Int) := by omega
                  have q3 : decide ((q : Int) < (j : Int)) = true := by simpa using hqlt
                  have q4 : decide (q < j) = true := by simpa using hqlt
                  have wq : wrap64 ((q : Int) + 1) = ((q + 1 : Nat) : Int) := by have := H40.out; unfold wrap64; omega
                  have w8 : IntKind.u8.wrap (q : Int) = (q : Int) := wrap8 (by have := H40.out; omega)
                  have kc := conv_byte wr (j := q) (by have := H40.out; omega)
                  obtain ⟨c0, c1, c2⟩ := blk_cells hK.out
                  have hbA : Below wr.heap.size wr (wr.alloc (.cells #[.int .u8 (q : Int)] 5)) := (Below.refl _ _).alloc (Nat.le_refl _) _
                  obtain ⟨c0', c1', c2'⟩ := blk_cells (hK.out.keep (hbA.block w.heap.size hK.out.lt))
                  have HBA := hid hbA
                  have hop := open_on w _ g _ _ (hV.out.bel hbA) k HK.out [UInt8.ofNat q] (((i + 1 : Nat) : Int)) (i + 1) rfl (by have := H40.out; have := HLT.out; omega)
                  have HOP := hid (fv_open (k := k) (f := f) H40.out HLT.out HQL.out)
                  clear hbA hqlt
                  as_aux_lemma =>
                  go_wp2_with fail
                  refine hop.mono ?_
                  rintro e w3 ⟨A3, n3, c3, rfl, ho3, -, hb3⟩
                  rw [HOP.out.1]
                  rw [HOP.out.2] at ho3
                  have hb4 : Below wr.heap.size wr w3 := HBA.out.trans (hb3.mono HBA.out.size)
                  have HV3 := hid (hV.out.bel hb4)
                  have HK3 := hid (hK.out.keep (hb4.block w.heap.size hK.out.lt))
                  have HBT3 := hid (HBT.out.below HV3.out.below (Nat.le_refl _))
                  clear hop hb3 hb4 HBA hK hV c0 c1 c2 c0' c1' c2' kc HOP
                  by_cases hiq : i = q
                  · subst hiq
                    rw [if_pos rfl]
                    rw [if_pos rfl] at ho3
                    have v1 := own_str ho3
                    have v2 := run_str (P := Try.prog) (c := cB) 33 9 5 Try.underlying33 Try.underlying5 Try.underlying9 HBT3.out
                    have v3 : ((str (f i)).toList == (str (f i)).toList) = true := by simp
                    have v4 : ((i : Int) == (i : Int)) = true := by simp
                    have v5 : ((i : Int) != (i : Int)) = false := by simp
                    clear ho3
                    go_wp2
                    go_roundg (j - (i + 1))
                    case measure => have := hgq.out; have := HQL.out; omega
                    case rel => exact ⟨i + 1, congrArg (Value.int .i64) (by first | exact wq | omega | rfl), hid rfl, hid (by have := HQL.out; omega), HK3, HV3⟩
                  · rw [if_neg hiq]
                    rw [if_neg hiq] at ho3
                    have hn3 : n3 = 0 := by have := ho3.1; rw [bs_len] at this; simpa using this.symm
                    subst hn3
                    have v4 : ((i : Int) == (q : Int)) = false := by simp; omega
                    have v5 : ((i : Int) != (q : Int)) = true := by simp; omega
                    have v6 : decide ((i : Int) = (q : Int)) = false := by simp; omega
                    clear ho3 hiq
                    go_wp2
                    go_roundg (j - (q + 1))
                    case measure => have := hgq.out; have := HQL.out; omega
                    case rel => exact ⟨q + 1, congrArg (Value.int .i64) (by first | exact wq | omega | rfl), hid rfl, hid (by have := HQL.out; omega), HK3, HV3⟩
                · have q3 : decide ((q : Int) < (j : Int)) = false := by simp; omega
                  have q4 : decide (q < j) = false := by simp; omega
                  have wi := HWI.out
                  clear hqge hgq hq
                  as_aux_lemma =>
                  go_wp2
                  go_roundg (j - (i + 1))
                  case measure => have := hgi.out; have := HLT.out; omega
                  case rel => exact ⟨i + 1, congrArg (Value.int .i64) (by first | exact wi | omega | rfl), hid rfl, hid (by have := HLT.out; omega), hK, hV⟩
            · have i3 : decide ((i : Int) < (j : Int)) = false := by simp; omega
              have i4 : decide (i < j) = false := by simp; omega
              have HFL := hid (fv_len k f j)
              clear hge hgi hi
              as_aux_lemma =>
              go_wp2_with fail
              refine (sealed_on w wr g _ _ hV.out).mono ?_
              rintro e w6 ⟨rfl, rfl⟩
              rw [HFL.out]
              go_wp2
              go_ret
              exact ⟨rfl, hV.out.below⟩
    · have e2 : decide (m2 < 0) = true := by simp; exact HM3.out.2 hr
      clear hr HM3
      as_aux_lemma =>
      go_wp2
      go_ret
      exact ⟨rfl, HB1.out⟩
end Go.Proofs.Ytaailoodhaibiaa
