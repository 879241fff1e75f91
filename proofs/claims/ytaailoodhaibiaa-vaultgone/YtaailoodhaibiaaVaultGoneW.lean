/- The walk of VaultGone: for every input the law answers true. -/
import Derived.Test.YtaailoodhaibiaaVtLaw
namespace Go.Proofs.Ytaailoodhaibiaa
open Go.RowKit

def gv (ks : List Ky) : Va := ⟨ks.map fun k => ⟨k, [98], [120]⟩, []⟩
theorem gv_len (ks : List Ky) : (gv ks).L.length = ks.length := by simp [gv]
theorem gv_seal {ks : List Ky} {k : Ky} (h : k.right) : seE (gv ks) k [(120 : UInt8)].length = 0 ∧ seS (gv ks) k [98] [120] = gv (ks ++ [k]) := by
  have h1 : ¬ (¬ k.right ∨ 65536 < [(120 : UInt8)].length) := by rintro (e | e); exact e h; simp at e
  have h2 : ¬ k ∈ (gv ks).G := by simp [gv]
  exact ⟨(if_neg h1).trans (if_neg h2), ((if_neg h1).trans (if_neg h2)).trans (by simp [gv])⟩
theorem gv_bad {ks : List Ky} {k : Ky} (h : ¬ k.right) : seE (gv ks) k [(120 : UInt8)].length = 2 ∧ seS (gv ks) k [98] [120] = gv ks := ⟨if_pos (.inl h), if_pos (.inl h)⟩
theorem gv_open {ks : List Ky} {go : Ky} {j : Nat} (hj : j < ks.length) : opE ((gv ks).destroy go) ks[j] [98] (j + 1) = if ks[j] = go then 50 else 0 := by
  have hG : ks[j] ∈ ((gv ks).destroy go).G ↔ ks[j] = go := by simp [Va.destroy, gv]
  unfold opE
  by_cases h : ks[j] = go
  · rw [if_pos (hG.2 h), if_pos h]
  · rw [if_neg (fun e => h (hG.1 e)), if_neg h]
    have : opX ((gv ks).destroy go) ks[j] [98] (j + 1) = some [120] := by
      unfold opX behind Va.destroy gv
      simp [hj, wipe, h]
    rw [this]
    rfl
theorem gv_len2 (ks : List Ky) (go : Ky) : ((gv ks).destroy go).L.length = ks.length ∧ (((gv ks).destroy go).destroy go).L.length = ks.length := by simp [gv, Va.destroy]
theorem gv_gone (ks : List Ky) (go : Ky) : opE (((gv ks).destroy go).destroy go) go [] 1 = 50 := if_pos (by simp [Va.destroy])

set_option maxRecDepth 20000 in
set_option maxHeartbeats 8000000 in
theorem walkVaultGone (A : Option Addr) (n c : Nat) (go : Ky) (w : World) (hA : KeysW w w.heap.size A n ∧ n ≤ 9223372036854775807) (hk : go.wf) :
    Calls Try.prog 6 #[.slice A n c, (.agg #[.int .i64 (go).t, .int .i64 (go).c, .int .i64 (go).e])] w fun e w' => e = .returned (.bool true) ∧ Below w.heap.size w w' := by
  have HA := hid hA.1
  have HK := hid hk
  have hB := Blk.new w 32 #[.int .i64 go.t, .int .i64 go.c, .int .i64 go.e]
  have hb0 : Below w.heap.size w (w.alloc (.cells #[.int .i64 go.t, .int .i64 go.c, .int .i64 go.e] 32)) := (Below.refl _ _).alloc (Nat.le_refl _) _
  have hf := vfirst_c (w.alloc (.cells #[.int .i64 go.t, .int .i64 go.c, .int .i64 go.e] 32))
  have HB0 := hid hb0
  have HBK := hid hB
  clear hA hk hB hb0
  go_enter Try.func6, Try.ntmps6
  go_wp2_with fail
  refine hf.mono ?_
  rintro e w1 ⟨rfl, hb1⟩
  have HB1 := hid (HB0.out.trans (hb1.mono HB0.out.size))
  have HK1 := hid (HBK.out.keep (hb1.block w.heap.size HBK.out.lt))
  clear hf hb1 HB0 HBK
  by_cases h40 : 40 < n
  · have e1 : decide ((40 : Int) < (n : Int)) = true := by simp; omega
    clear h40
    go_wp2
    go_ret
    exact ⟨rfl, HB1.out⟩
  · have e1 : decide ((40 : Int) < (n : Int)) = false := by simp; omega
    have H40 : Hid (n ≤ 40) := hid (by omega)
    clear h40
    go_wp2_with fail
    refine (new_on w w1 HB1.out (fun x => x = w.heap.size ∨ (none : Option Addr).map (·.block) = some x) (fun x hx => by rcases hx with rfl | hx; exact ⟨HK1.out.lt, Nat.le_refl _⟩; cases hx)).mono ?_
    rintro e w2 ⟨g, rfl, hv2, hb2⟩
    have hK2 := HK1.out.keep (hb2.block w.heap.size HK1.out.lt)
    have HV2 : Hid (VOn w w2 g (gv []) (fun x => x = w.heap.size ∨ (none : Option Addr).map (·.block) = some x)) := hid hv2
    have HK2 := hid hK2
    have HR2 : Hid (KRow w2 none 0 []) := hid (own_nilrow _ _ _ _)
    clear hv2 hb2 hK2 HB1 HK1
    go_wp2_with fail
    go_loopg [6, 25] n (fun kk sv iv wr => ∃ (j : Nat) (ks : List Ky) (B : Option Addr) (cB : Nat), sv = .slice B ks.length cB ∧ iv = .int .i64 (j : Int) ∧ Hid (kk = n - j) ∧ Hid (j ≤ n) ∧ Hid (ks.length ≤ j) ∧ Hid (∀ k ∈ ks, k.wf) ∧ Hid (∀ d, B.map (·.block) = some d → w.heap.size < d) ∧ Hid (KRow wr B cB ks) ∧ Hid (Blk wr w.heap.size 32 #[.int .i64 go.t, .int .i64 go.c, .int .i64 go.e]) ∧ Hid (VOn w wr g (gv ks) (fun x => x = w.heap.size ∨ B.map (·.block) = some x)))
    case atStart => exact ⟨0, [], none, 0, rfl, rfl, hid (by omega), hid (Nat.zero_le _), hid (Nat.le_refl _), hid (fun k hk => by cases hk), hid (fun d hd => by cases hd), HR2, HK2, HV2⟩
    case round =>
      obtain ⟨j, ks, B, cB, rfl, rfl, hgk, hj, hkl, hkw, hBg, hR, hK, hV⟩ := hrel
      clear HV2 HK2 HR2
      rcases Nat.lt_or_ge j n with hlt | hge
      · have HLT := hid hlt
        obtain ⟨b, off, q, rfl, hbl, hr0, hqw⟩ := HA.out j hlt
        have HQW := hid hqw
        have HQR := hid (rangeAt_keep hr0 (hV.out.below.block b hbl))
        have j1 : (0 : Int) ≤ (j : Int) := by omega
        have j2 : (j : Int) < (n : Int) := by omega
        have j3 : decide ((j : Int) < (n : Int)) = true := by simpa using hlt
        have j4 : decide (j < n) = true := by simpa using hlt
        have wj : wrap64 ((j : Int) + 1) = ((j + 1 : Nat) : Int) := by have := H40.out; unfold wrap64; omega
        have kc := conv2 wr (.cells #[.int .i64 q.t, .int .i64 q.c, .int .i64 q.e] 32) #[.int .u8 120] 1 1
        clear hr0 hbl hqw
        as_aux_lemma =>
        go_wp2_with (refine wpList_load_mid rfl 32 _ rfl b (off + j * 3) rfl [.int .i64 q.t, .int .i64 q.c, .int .i64 q.e] _ HQR.out Try.underlying32 rfl Try.infoKey ?_)
        have hs2 : (wr.alloc (.cells #[.int .i64 q.t, .int .i64 q.c, .int .i64 q.e] 32)).heap.size = wr.heap.size + 1 := by simp
        have hb2 : Below wr.heap.size wr (wr.alloc (.cells #[.int .i64 q.t, .int .i64 q.c, .int .i64 q.e] 32)) := (Below.refl _ _).alloc (Nat.le_refl _) _
        have HV2 := hid (hV.out.add hb2 (fun x => x = wr.heap.size) (fun x hx => by subst hx; simp))
        have HQ2 := hid (Blk.new wr 32 #[.int .i64 q.t, .int .i64 q.c, .int .i64 q.e])
        refine (seal_on w _ g (gv ks) _ (HV2.out.bel ((Below.refl _ _).alloc (Nat.le_refl _) _)) q HQW.out [98] _ 1 1 [120] (Bts.lit2 wr _ 5 [120] _) (by rw [gv_len]; have := hkl.out; have := hj.out; have := H40.out; omega)).mono ?_
        rintro e w3 ⟨rfl, hv3, hk3⟩
        have hkeep : ∀ x, x < wr.heap.size + 1 → ((x = w.heap.size ∨ B.map (·.block) = some x) ∨ x = wr.heap.size) → w3.heap[x]? = (wr.alloc (.cells #[.int .i64 q.t, .int .i64 q.c, .int .i64 q.e] 32)).heap[x]? := fun x hx hX => (hk3 x hX).trans (((Below.refl (wr.heap.size + 1) _).alloc (by rw [hs2]; exact Nat.le_refl _) _).block x hx)
        have HQ3 : Hid (Blk w3 wr.heap.size 32 #[.int .i64 q.t, .int .i64 q.c, .int .i64 q.e]) := hid (Blk.keep HQ2.out (hkeep _ (by omega) (.inr rfl)))
        have HK3 : Hid (Blk w3 w.heap.size 32 #[.int .i64 go.t, .int .i64 go.c, .int .i64 go.e]) := hid ((hK.out.keep (hb2.block w.heap.size hK.out.lt)).keep (hkeep _ (by have := hK.out.lt; omega) (.inl (.inl rfl))))
        have HR3 : Hid (KRow w3 B cB ks) := hid ((hR.out.keep fun d hd => hb2.block d (own_lt hR.out d hd)).keep fun d hd => hkeep d (by have := own_lt hR.out d hd; omega) (.inl (.inr hd)))
        have HV3 := hid hv3
        clear hv3 hk3 hkeep HV2 HQ2 hb2 hs2 hR hK hV kc HQR
        generalize wr.heap.size = vb at *
        by_cases hr : q.right
        · obtain ⟨h1, h2⟩ := gv_seal (ks := ks) hr
          rw [h1]
          rw [h2] at HV3
          obtain ⟨c0, c1, c2⟩ := blk_cells HQ3.out
          have hb4 : Below w3.heap.size w3 (w3.alloc (.cells #[.int .i64 q.t, .int .i64 q.c, .int .i64 q.e] 32)) := (Below.refl _ _).alloc (Nat.le_refl _) _
          have HR4 : Hid (KRow (w3.alloc (.cells #[.int .i64 q.t, .int .i64 q.c, .int .i64 q.e] 32)) B cB ks) := hid (HR3.out.keep fun d hd => hb4.block d (own_lt HR3.out d hd))
          have HN4 := hid (blk_range (Blk.new w3 32 #[.int .i64 q.t, .int .i64 q.c, .int .i64 q.e]))
          have HK4 := hid (HK3.out.keep (hb4.block w.heap.size HK3.out.lt))
          have HV4 := hid (HV3.out.bel hb4)
          clear h1 h2 hr hb4 HV3 HQ3
          go_wp2_with (at_builtin; refine wpList_append_z rfl 28 32 _ 3 24 Try.underlying28 Try.infoK rfl (by decide) (by decide) _ _ rfl B ks.length cB (kcs ks) rfl HR4.out w3.heap.size rfl q.cells rfl HN4.out (ky_cell q) (by have := hkl.out; have := hj.out; have := H40.out; omega) ?_)
          intro B' cB' w5 ho5 hg5 hA5
          have ho6 : KRow w5 B' cB' (ks ++ [q]) := by unfold KRow; rw [List.length_append, kcs_app, kcs_one]; exact ho5
          have HR5 := hid ho6
          have hsz := hg5.size
          have hs4 : (w3.alloc (.cells #[.int .i64 q.t, .int .i64 q.c, .int .i64 q.e] 32)).heap.size = w3.heap.size + 1 := by simp
          have HV5 : Hid (VOn w w5 g (gv (ks ++ [q])) (fun x => x = w.heap.size ∨ B'.map (·.block) = some x)) := hid (HV4.out.grown hg5 (fun d hd => .inl (.inr hd)) _ (fun x hx => by
            rcases hx with hx | hx
            · exact .inl (.inl (.inl hx))
            · rcases hA5 x hx with e | e
              · exact .inl (.inl (.inr e))
              · exact .inr ⟨by omega, own_lt ho5 x hx⟩))
          have HK5 := hid (HK4.out.keep (hg5.block w.heap.size HK4.out.lt (fun e => by have := hBg.out _ e.symm; omega)))
          have HB5 : Hid (∀ d, B'.map (·.block) = some d → w.heap.size < d) := hid (fun d hd => by
            rcases hA5 d hd with e | e
            · exact hBg.out d e
            · have := HK4.out.lt; omega)
          have HW5 : Hid (∀ k ∈ ks ++ [q], k.wf) := hid (fun k hk => by
            rcases List.mem_append.1 hk with hk | hk
            · exact hkw.out k hk
            · rw [List.mem_singleton] at hk; subst hk; exact HQW.out)
          have HL5 : Hid ((ks ++ [q]).length = ks.length + 1) := hid (by simp)
          clear ho5 ho6 hg5 hA5 hsz hs4 HR4 HN4 HK4 HV4 HR3 HK3 hBg hkw c0 c1 c2
          go_wp2
          go_roundg (n - (j + 1))
          case measure => have := hgk.out; have := HLT.out; omega
          case rel => exact ⟨j + 1, ks ++ [q], B', cB', by rw [HL5.out], congrArg (Value.int .i64) (by first | exact wj | omega | rfl), hid rfl, hid (by have := HLT.out; omega), hid (by have := hkl.out; have := HL5.out; omega), HW5, HB5, HR5, HK5, HV5⟩
        · obtain ⟨h1, h2⟩ := gv_bad (ks := ks) hr
          rw [h1]
          rw [h2] at HV3
          clear h1 h2 hr
          go_wp2
          go_roundg (n - (j + 1))
          case measure => have := hgk.out; have := HLT.out; omega
          case rel => exact ⟨j + 1, ks, B, cB, rfl, congrArg (Value.int .i64) (by first | exact wj | omega | rfl), hid rfl, hid (by have := HLT.out; omega), hid (by have := hkl.out; omega), hkw, hBg, HR3, HK3, hid (HV3.out.less (fun x hx => .inl hx))⟩
      · have j3 : decide ((j : Int) < (n : Int)) = false := by simp; omega
        have j4 : decide (j < n) = false := by simp; omega
        obtain ⟨c0, c1, c2⟩ := blk_cells hK.out
        have hde := destroy_on w wr g (gv ks) _ hV.out go HK.out (by rw [gv_len]; have := hkl.out; have := hj.out; have := H40.out; omega) (by simp [gv])
        have HLK : Hid (ks.length ≤ 40) := hid (by have := hkl.out; have := hj.out; have := H40.out; omega)
        clear hge hgk HA
        as_aux_lemma =>
        go_wp2_with fail
        refine hde.mono ?_
        rintro e w3 ⟨rfl, hv3, hk3⟩
        have HV3 := hid hv3
        have HK3 : Hid (Blk w3 w.heap.size 32 #[.int .i64 go.t, .int .i64 go.c, .int .i64 go.e]) := hid (hK.out.keep (hk3 _ (.inl rfl)))
        have HR3 : Hid (KRow w3 B cB ks) := hid (hR.out.keep fun d hd => hk3 d (.inr hd))
        clear hde hv3 hk3 hR hK hV c0 c1 c2
        go_wp2_with fail
        go_loopg [49] ks.length (fun kk iv wr => ∃ (i : Nat), iv = .int .i64 (i : Int) ∧ Hid (kk = ks.length - i) ∧ Hid (i ≤ ks.length) ∧ Hid (KRow wr B cB ks) ∧ Hid (Blk wr w.heap.size 32 #[.int .i64 go.t, .int .i64 go.c, .int .i64 go.e]) ∧ Hid (VOn w wr g ((gv ks).destroy go) (fun x => x = w.heap.size ∨ B.map (·.block) = some x)))
        case atStart => exact ⟨0, rfl, hid (by omega), hid (Nat.zero_le _), HR3, HK3, HV3⟩
        case round =>
          obtain ⟨i, rfl, hgi, hi, hR, hK, hV⟩ := hrel
          clear HR3 HK3 HV3
          rcases Nat.lt_or_ge i ks.length with hilt | hige
          · have HIL := hid hilt
            obtain ⟨b, rfl, hbl, hr0⟩ := hR.out.elem hilt
            have HQW := hid (hkw.out ks[i] (List.getElem_mem hilt))
            have HQR := hid hr0
            have HOE := hid (gv_open (go := go) hilt)
            have heq := eq_key ks[i] go
            have i1 : (0 : Int) ≤ (i : Int) := by omega
            have i2 : (i : Int) < (ks.length : Int) := by omega
            have i3 : decide ((i : Int) < (ks.length : Int)) = true := by simpa using hilt
            have i4 : decide (i < ks.length) = true := by simpa using hilt
            have wi : wrap64 ((i : Int) + 1) = ((i + 1 : Nat) : Int) := by have := HLK.out; unfold wrap64; omega
            have wu1 : IntKind.u64.wrap (i : Int) = (i : Int) := wrapu (by omega) (by have := HLK.out; omega)
            have wu2 : IntKind.u64.wrap ((i : Int) + 1) = ((i + 1 : Nat) : Int) := by rw [wrapu (by omega) (by have := HLK.out; omega)]; rfl
            clear hr0 hbl
            generalize ks[i] = q at *
            as_aux_lemma =>
            go_wp2_with (refine wpList_load_mid rfl 32 _ rfl b (i * 3) rfl [.int .i64 q.t, .int .i64 q.c, .int .i64 q.e] _ HQR.out Try.underlying32 rfl Try.infoKey ?_)
            have hb4 : Below wr.heap.size wr (wr.alloc (.cells #[.int .i64 q.t, .int .i64 q.c, .int .i64 q.e] 32)) := (Below.refl _ _).alloc (Nat.le_refl _) _
            have HQ4 := hid (Blk.new wr 32 #[.int .i64 q.t, .int .i64 q.c, .int .i64 q.e])
            have HB4 := hid hb4
            refine (open_on w _ g _ _ (hV.out.bel hb4) q HQW.out [98] _ (i + 1) rfl (by have := HLK.out; have := HIL.out; omega)).mono ?_
            rintro e w5 ⟨A5, n5, c5, rfl, -, -, hb5⟩
            rw [HOE.out]
            have hb6 : Below wr.heap.size wr w5 := HB4.out.trans (hb5.mono HB4.out.size)
            have HR5 : Hid (KRow w5 (some ⟨b, 0, none⟩) cB ks) := hid (hR.out.keep fun d hd => hb6.block d (own_lt hR.out d hd))
            have hK5 := hK.out.keep (hb6.block w.heap.size hK.out.lt)
            have HK5 := hid hK5
            have HV5 := hid (hV.out.bel hb6)
            have hQ5 : Blk w5 wr.heap.size 32 #[.int .i64 q.t, .int .i64 q.c, .int .i64 q.e] := Blk.keep HQ4.out (hb5.block wr.heap.size (by simp))
            obtain ⟨c0, c1, c2⟩ := blk_cells hK5
            obtain ⟨d0, d1, d2⟩ := blk_cells hQ5
            clear hb4 hb5 hb6 hK5 hQ5 HB4 HQ4 hR hK hV HOE HQR
            generalize wr.heap.size = vb at *
            by_cases hq : q = go
            · rw [if_pos hq]
              rw [decide_eq_true hq] at heq
              clear hq
              go_wp2
              go_roundg (ks.length - (i + 1))
              case measure => have := hgi.out; have := HIL.out; omega
              case rel => exact ⟨i + 1, congrArg (Value.int .i64) (by first | exact wi | omega | rfl), hid rfl, hid (by have := HIL.out; omega), HR5, HK5, HV5⟩
            · rw [if_neg hq]
              rw [decide_eq_false hq] at heq
              clear hq
              go_wp2
              go_roundg (ks.length - (i + 1))
              case measure => have := hgi.out; have := HIL.out; omega
              case rel => exact ⟨i + 1, congrArg (Value.int .i64) (by first | exact wi | omega | rfl), hid rfl, hid (by have := HIL.out; omega), HR5, HK5, HV5⟩
          · have i3 : decide ((i : Int) < (ks.length : Int)) = false := by simp; omega
            have i4 : decide (i < ks.length) = false := by simp; omega
            obtain ⟨c0, c1, c2⟩ := blk_cells hK.out
            have hde := destroy_on w wr g _ _ hV.out go HK.out (by rw [(gv_len2 ks go).1]; have := HLK.out; omega) (by simp [gv, Va.destroy])
            have HGG := hid (gv_gone ks go)
            have HGL := hid (gv_len2 ks go).2
            clear hige hgi
            as_aux_lemma =>
            go_wp2_with fail
            refine hde.mono ?_
            rintro e w4 ⟨rfl, hv4, hk4⟩
            have HV4 := hid hv4
            obtain ⟨d0, d1, d2⟩ := blk_cells (hK.out.keep (hk4 _ (.inl rfl)))
            clear hde hv4 hk4 c0 c1 c2 hR hK hV
            go_wp2_with fail
            refine (open_on w w4 g _ _ HV4.out go HK.out [] 1 1 rfl (by decide)).mono ?_
            rintro e w5 ⟨A5, n5, c5, rfl, -, -, hb5⟩
            rw [HGG.out]
            have HV5 := hid (HV4.out.bel hb5)
            clear hb5 HV4 d0 d1 d2
            go_wp2_with fail
            refine (sealed_on w w5 g _ _ HV5.out).mono ?_
            rintro e w6 ⟨rfl, rfl⟩
            rw [HGL.out]
            go_wp2
            go_ret
            exact ⟨rfl, HV5.out.below⟩
end Go.Proofs.Ytaailoodhaibiaa
