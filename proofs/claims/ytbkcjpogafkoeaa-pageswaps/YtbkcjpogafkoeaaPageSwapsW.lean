/- The walk of PageSwaps: it answers true, whatever the input. -/
import Derived.Test.YtbkcjpogafkoeaaPageSwapsM
import Derived.LoopN
namespace Go.Proofs.Ytbkcjpogafkoeaa
open Go.RowKit

theorem Try.infoRows : (Try.prog.info? 42).map (fun i => (i.zero, i.size, i.bytes)) = some (some (.slice none 0 0), 1, 24) := by kernel_rfl
set_option maxRecDepth 100000 in
set_option maxHeartbeats 8000000 in
theorem walkPageSwaps (a0 : Option Addr) (n0 k0 : Nat) (z0 : List Int) (w : World) (w0 : IsRow .u8 w a0 n0 k0 z0) :
    Calls Try.prog 6 #[.slice a0 n0 k0] w fun e w' => e = .returned (.bool true) ∧ Below w.heap.size w w' := by
  obtain ⟨l, hb, hc, hcm⟩ := argB w0
  unfold maxLen at hcm
  have HBT := hid hb
  have HNM : Hid (n0 ≤ 9223372036854775807) := hid (by omega)
  clear hb hc hcm w0
  go_enter Try.func6, Try.ntmps6
  go_wp2_with fail
  refine (pfirst_c w).mono ?_
  rintro e v1 ⟨rfl, hb1⟩
  have HB1 := hid hb1
  clear hb1
  go_wp2_with fail
  refine (dnew_onX w v1 HB1.out 12 (by omega) (by omega) (fun _ => False) (fun x hx => hx.elim)).mono ?_
  rintro e v2 ⟨gd, rfl, hv2, -⟩
  have HV2 := hid hv2
  clear hv2 HB1
  go_wp2_with fail
  refine (vnew_on HV2.out).mono ?_
  rintro e v3 ⟨gv, rfl, hv3, -⟩
  have HV3 := hid hv3
  clear hv3 HV2
  go_wp2_with fail
  go_loopg [6, 24] 12 (fun kk rv iv wr => ∃ (j : Nat) (d : St) (v : Va) (X : Nat → Prop) (RA : Option Addr) (rc : Nat) (vs : List Value), rv = .slice RA j rc ∧ iv = .int .i64 (j : Int) ∧ Hid (kk = 12 - j) ∧ Hid (j ≤ 12) ∧ Hid (Sw d v j id) ∧ Hid (On w (PV gd d gv v) wr X) ∧ Hid (Rws wr X RA j rc vs))
  case atStart => exact ⟨0, _, _, _, none, 0, [], rfl, rfl, hid (by omega), hid (by omega), hid Sw.new, HV3, hid ⟨own_nilrow _ _ _ _, fun b hb => (by cases hb), fun i hi => absurd hi (by omega)⟩⟩
  case round =>
  obtain ⟨j, d, v, X, RA, rc, vs, rfl, rfl, hgk, hj, hS, hV, hR⟩ := hrel
  clear HV3
  rcases Nat.lt_or_ge j 12 with hlt | hge
  · have HLT := hid hlt
    have j3 : decide ((j : Int) < 12) = true := by simp; omega
    have j4 : decide (j < 12) = true := by simpa using hlt
    have wj : wrap64 ((j : Int) + 1) = ((j + 1 : Nat) : Int) := by unfold wrap64; omega
    obtain ⟨q, hq⟩ : ∃ q : Nat, q = 97 + j := ⟨_, rfl⟩
    have u1 : (97 : Int) + (j : Int) = (q : Int) := by omega
    have u2 : wrap64 (q : Int) = (q : Int) := by unfold wrap64; omega
    have u3 : (q : Int) % 256 = (q : Int) := by omega
    have u4 : IntKind.u8.wrap (q : Int) = (q : Int) := wrap8 (by omega)
    have hby : bs [UInt8.ofNat (97 + j)] = [.int .u8 (q : Int)] := by rw [← hq]; exact bs_ofNat (by omega)
    have hbt : Bts (wr.alloc (.cells #[.int .u8 (q : Int)] 5)) 0 (wr.alloc (.cells #[.int .u8 (q : Int)] 5)).heap.size (some ⟨wr.heap.size, 0, none⟩) 1 [UInt8.ofNat (97 + j)] := by
      have := Bts.lit1 wr 5 [UInt8.ofNat (97 + j)] (0, 0)
      rw [hby] at this
      exact this
    obtain ⟨q1, q2, q3, q4⟩ := hS.out.write hlt
    have hbw : Below wr.heap.size wr (wr.alloc (.cells #[.int .u8 (q : Int)] 5)) := (Below.refl _ _).alloc (Nat.le_refl _) _
    have hwr := pwrite_on (C := fun P => P) (w := w) (gd := gd) (gv := gv) Foc.self (hV.out.go (PV.ok _ _ _ _) hbw) pz pz_wf (j : Int) ⟨by omega, by omega⟩ _ 1 1 [UInt8.ofNat (97 + j)] hbt (by have := hS.out.W; omega) (by have := hS.out.len; omega)
    rw [show ([UInt8.ofNat (97 + j)] : List UInt8).length = 1 from rfl, q1] at hwr
    generalize pwD d v (j : Int) pz 1 = d2 at *
    generalize pwV d v (j : Int) pz [UInt8.ofNat (97 + j)] = u2' at *
    have HWR := hid hwr
    have HS2 := hid q2
    have Q3 := hid q3
    have Q4 := hid q4
    have HR1 := hid (hR.out.stay (hV.out.stay hbw))
    have HIJ : Hid (i64ok (j : Int)) := hid ⟨by omega, by omega⟩
    clear hwr q1 q2 q3 q4 hbw hbt hby hlt hS hV hR hq
    as_aux_lemma =>
    go_wp2_with fail
    refine HWR.out.mono ?_
    rintro e v6 ⟨rfl, hv6, hk6⟩
    have HV6 := hid hv6
    have HR6 := hid (HR1.out.stay hk6)
    clear hv6 hk6 HWR HR1
    go_wp2_with fail
    refine (dread_on (Foc.dv gv u2') HV6.out (j : Int)).mono ?_
    rintro e v7 ⟨A7, n7, k7, rfl, ho7, -, hb7⟩
    rw [Q3.out]
    rw [Q4.out] at ho7
    obtain rfl : n7 = 16 := by have h := ho7.1; rw [bs_len, pad_le8_len, Nat.mul_one] at h; exact h.symm
    obtain ⟨b, rfl, hbl, -⟩ := own_range ho7 (by omega)
    have hbX : ¬ X b := fun e => by have h1 := HV6.out.lt e; have h2 := own_ge ho7 b rfl; omega
    have HV7 : Hid (On w (PV gd d2 gv u2') v7 (fun x => X x ∨ x = b)) := hid ((HV6.out.row (PV.ok _ _ _ _) hb7 ho7).less (fun x hx => hx.imp id (fun e => by rw [e]; rfl)))
    have HR7 := hid (HR6.out.stay (HV6.out.stay hb7))
    have HT7 := hid ((Bts.own ho7).wide (Nat.zero_le _) (Nat.le_refl _))
    have HX7 := hid (fun x (hx : X x) => Nat.lt_of_lt_of_le (HV6.out.lt hx) hb7.size)
    have HBX := hid hbX
    have HBL := hid hbl
    clear ho7 hb7 hbX hbl HV6 HR6
    have HN8 : Hid ((v7.alloc (.cells #[.slice (some ⟨b, 0, none⟩) 16 k7] 42)).rangeAt v7.heap.size 0 [.slice (some ⟨b, 0, none⟩) 16 k7]) := hid (fun t u hu => by
      rw [(Blk.new v7 42 #[.slice (some ⟨b, 0, none⟩) 16 k7]).cell, Nat.zero_add]
      rw [show (#[.slice (some ⟨b, 0, none⟩) 16 k7] : Array Value) = ([.slice (some ⟨b, 0, none⟩) 16 k7] : List Value).toArray from rfl, List.getElem?_toArray]
      exact hu)
    have HO8 : Hid ((v7.alloc (.cells #[.slice (some ⟨b, 0, none⟩) 16 k7] 42)).ownsRow 0 42 1 (.slice RA j rc) j vs) := hid (own_keep HR7.out.own fun y hy => ((Below.refl v7.heap.size v7).alloc (Nat.le_refl _) _).block y (own_lt HR7.out.own y hy))
    go_wp2_with (at_builtin; refine wpList_append_z rfl 71 42 _ 1 24 Try.underlying71 Try.infoRows rfl (by decide) (by decide) _ _ rfl RA j rc vs rfl HO8.out v7.heap.size rfl [.slice (some ⟨b, 0, none⟩) 16 k7] rfl HN8.out (by simp [Value.oneCell']) (by have := HLT.out; omega) ?_)
    intro RA' rc' w9 ho9 hg9 hl9
    have hs8 : (v7.alloc (.cells #[.slice (some ⟨b, 0, none⟩) 16 k7] 42)).heap.size = v7.heap.size + 1 := by simp
    have HR9 := hid (HR7.out.push HX7.out HT7.out HBX.out HBL.out ho9 hg9 hl9)
    have HV9 : Hid (On w (PV gd d2 gv u2') w9 (fun x => (X x ∨ x = b) ∨ RA'.map (·.block) = some x)) := hid ((HV7.out.go (PV.ok _ _ _ _) ((Below.refl _ _).alloc (Nat.le_refl _) _)).grew (PV.ok _ _ _ _) hg9 (fun k hk => .inl (HR7.out.RX k hk)) (fun x hx => by
      rcases hx with hx | hx
      · exact .inl hx
      · rcases hl9 x hx with e | e
        · exact .inl (.inl (HR7.out.RX x e))
        · exact .inr ⟨by omega, own_lt ho9 x hx⟩))
    clear ho9 hg9 hl9 hs8 HN8 HO8 HV7 HR7 HT7 HX7 HBX HBL
    go_wp2_with fail
    go_roundg (12 - (j + 1))
    case measure => have := hgk.out; have := HLT.out; omega
    case rel => exact ⟨j + 1, d2, u2', _, RA', rc', _, rfl, congrArg (Value.int .i64) (by first | exact wj | omega | rfl), hid rfl, hid (by have := HLT.out; omega), HS2, HV9, HR9⟩
  obtain rfl : j = 12 := by have := hj.out; omega
  clear hge hgk hj
  obtain ⟨rb, rfl, -, -⟩ := own_range hR.out.own (by omega)
  have hV4 : On w (PV gd d gv v) (wr.alloc (.cells #[.int .i64 0, .int .i64 1, .int .i64 2, .int .i64 3, .int .i64 4, .int .i64 5, .int .i64 6, .int .i64 7, .int .i64 8, .int .i64 9, .int .i64 10, .int .i64 11] 72)) (fun x => X x ∨ x = wr.heap.size) := hV.out.add (PV.ok _ _ _ _) ((Below.refl _ _).alloc (Nat.le_refl _) _) (Y := fun x => x = wr.heap.size) (fun x hx => by subst hx; simp)
  have HV4 := hid hV4
  have HR4 := hid (hR.out.stay (hV.out.stay (wr' := wr.alloc (.cells #[.int .i64 0, .int .i64 1, .int .i64 2, .int .i64 3, .int .i64 4, .int .i64 5, .int .i64 6, .int .i64 7, .int .i64 8, .int .i64 9, .int .i64 10, .int .i64 11] 72)) ((Below.refl _ _).alloc (Nat.le_refl _) _)))
  have HXA := hid (fun (e : X wr.heap.size) => Nat.lt_irrefl _ (hV.out.lt e))
  have HK4 : Hid (Blk (wr.alloc (.cells #[.int .i64 0, .int .i64 1, .int .i64 2, .int .i64 3, .int .i64 4, .int .i64 5, .int .i64 6, .int .i64 7, .int .i64 8, .int .i64 9, .int .i64 10, .int .i64 11] 72)) wr.heap.size 72 (tsc id)) := hid (Blk.new wr 72 #[.int .i64 0, .int .i64 1, .int .i64 2, .int .i64 3, .int .i64 4, .int .i64 5, .int .i64 6, .int .i64 7, .int .i64 8, .int .i64 9, .int .i64 10, .int .i64 11])
  clear hV4 hV hR
  go_wp2_with fail
  refine wp_loop_rounds 13 ?_
  iterate 12
    rw [rounds_succ]
    go_wp2_with fail
  rw [rounds_succ]
  go_wp2_with fail
  have HX5 : Hid (∀ x, X x → x ≠ wr.heap.size) := hid (fun x hx e => HXA.out (e ▸ hx))
  clear HXA
  generalize wr.heap.size = ab at *
  generalize wr.alloc (.cells #[.int .i64 0, .int .i64 1, .int .i64 2, .int .i64 3, .int .i64 4, .int .i64 5, .int .i64 6, .int .i64 7, .int .i64 8, .int .i64 9, .int .i64 10, .int .i64 11] 72) = v5 at *
  go_loopg [57] n0 (fun kk iv wq => ∃ (j : Nat) (d : St) (ts : Nat → Nat), iv = .int .i64 (j : Int) ∧ Hid (kk = n0 - j) ∧ Hid (j ≤ n0) ∧ Hid (Sw d v 12 ts) ∧ Hid (On w (PV gd d gv v) wq (fun x => X x ∨ x = ab)) ∧ Hid (Rws wq X (some ⟨rb, 0, none⟩) 12 rc vs) ∧ Hid (Blk wq ab 72 (tsc ts)))
  case atStart => exact ⟨0, d, id, rfl, hid (by omega), hid (Nat.zero_le _), hS, HV4, HR4, HK4⟩
  case round =>
  obtain ⟨j, d', ts, rfl, hgk, hj, hS', hV', hR', hK'⟩ := hrel
  clear HV4 HR4 HK4 hS
  rcases Nat.lt_or_ge j n0 with hlt | hge
  · have HLT := hid hlt
    obtain ⟨g, off, rfl, _, hgl, hcell⟩ := (HBT.out.lst.below hV'.out.below (Nat.le_refl _)).at_ hlt
    have hll : j < l.length := by rw [HBT.out.len]; exact hlt
    have hce : wr.cell? ⟨g, off + j, none⟩ = some (.int .u8 (l[j].toNat : Int)) := by
      rw [hcell]
      simp [bs]
    have hl256 := l[j].toNat_lt
    generalize l[j].toNat = t at *
    have j1 : (0 : Int) ≤ (j : Int) := by omega
    have j2 : (j : Int) < (n0 : Int) := by omega
    have j3 : decide ((j : Int) < (n0 : Int)) = true := by simpa using hlt
    have j4 : decide (j < n0) = true := by simpa using hlt
    have wj : wrap64 ((j : Int) + 1) = ((j + 1 : Nat) : Int) := by have := HNM.out; unfold wrap64; omega
    clear hcell hgl hll
    by_cases h12 : j < 12
    · have e1 : decide ((j : Int) < 12) = true := by simp; omega
      have e2 : decide (j < 12) = true := by simpa using h12
      have x3 : (j : Int) < 12 := by omega
      obtain ⟨x, hx12, r1, r2, r3, r4, r5, r6, x1, x2⟩ := rs12 t
      have HX := hid hx12
      have H12 := hid h12
      have hq : wr.cell? ⟨ab, j, none⟩ = some (.int .i64 (ts j : Int)) := (hK'.out.cell j).trans (tsc_get ts h12)
      have hqf := hK'.out.frozen j
      have HV6 := hid (hV'.out.set (PV.ok _ _ _ _) (v := ab) (.inr rfl) j (.int .i64 (x : Int)))
      have HR6 := hid (hR'.out.stay (w' := wr.setCell ⟨ab, j, none⟩ (.int .i64 (x : Int))) ⟨(grown_setCell wr ab j _).size, fun y hy => (grown_setCell wr ab j _).block y (hV'.out.lt (.inl hy)) (fun e => HX5.out y hy (by injection e))⟩)
      have HK6 : Hid (Blk (wr.setCell ⟨ab, j, none⟩ (.int .i64 (x : Int))) ab 72 (tsc (updT ts j x))) := hid (by rw [← tsc_set]; exact hK'.out.store j _)
      obtain ⟨b, bc, hb1, hb2, hb3, hb4⟩ := HR6.out.el x hx12
      have hb5 := (own_cell1 HR6.out.own hx12 hb1).1
      have hq2 : (wr.setCell ⟨ab, j, none⟩ (.int .i64 (x : Int))).cell? ⟨ab, j, none⟩ = some (.int .i64 (x : Int)) := by
        have := (HK6.out.cell j).trans (tsc_get _ h12)
        rw [this]; simp [updT]
      have HB4 := hid hb4
      have HSO := hid (hS'.out.over h12 hx12)
      have HWW := hid (show d'.W.length ≤ 100000 from Nat.le_trans hS'.out.W (by omega))
      clear hb1 hb2 hb3 hb4 hl256 hx12 h12 hlt hS' hV' hR' hK'
      as_aux_lemma =>
      go_wp2_with fail
      generalize wr.setCell ⟨ab, j, none⟩ (.int .i64 (x : Int)) = w6 at *
      refine (dover_on (Foc.dv gv v) HV6.out (j : Int) (some ⟨b, 0, none⟩) 16 bc _ HB4.out HWW.out).mono ?_
      rintro e w7 ⟨rfl, hv7, hk7⟩
      have HV7 := hid hv7
      have HR7 := hid (HR6.out.stay (hk7.less fun y hy => .inl hy))
      have HK7 := hid (HK6.out.keep (hk7.2 ab (.inr rfl)))
      clear hv7 hk7 HV6 HR6 HK6 HB4 hb5 hq hqf hq2
      go_wp2_with fail
      go_roundg (n0 - (j + 1))
      case measure => have := hgk.out; have := HLT.out; omega
      case rel => exact ⟨j + 1, _, _, congrArg (Value.int .i64) (by first | exact wj | omega | rfl), hid rfl, hid (by have := HLT.out; omega), HSO, HV7, HR7, HK7⟩
    · have e1 : decide ((j : Int) < 12) = false := by simp; omega
      have e2 : decide (j < 12) = false := by simpa using h12
      clear h12 hlt hl256
      as_aux_lemma =>
      go_wp2_with fail
      go_roundg (n0 - (j + 1))
      case measure => have := hgk.out; have := HLT.out; omega
      case rel => exact ⟨j + 1, d', ts, congrArg (Value.int .i64) (by first | exact wj | omega | rfl), hid rfl, hid (by have := HLT.out; omega), hS', hV', hR', hK'⟩
  have j3 : decide ((j : Int) < (n0 : Int)) = false := by simp; omega
  have j4 : decide (j < n0) = false := by simp; omega
  clear hge hgk hj
  go_wp2_with fail
  clear j3 j4
  go_loopg [79] 12 (fun kk iv wp => ∃ (j : Nat), iv = .int .i64 (j : Int) ∧ Hid (kk = 12 - j) ∧ Hid (j ≤ 12) ∧ Hid (On w (PV gd d' gv v) wp (fun x => x = ab)) ∧ Hid (Blk wp ab 72 (tsc ts)))
  case atStart => exact ⟨0, rfl, hid (by omega), hid (Nat.zero_le _), hid (hV'.out.less fun x hx => .inr hx), hK'⟩
  case round =>
  obtain ⟨i, rfl, hgk, hi, hV, hK⟩ := hrel
  clear hV' hK' hR'
  rcases Nat.lt_or_ge i 12 with hlt | hge
  · have HLT := hid hlt
    have j1 : (0 : Int) ≤ (i : Int) := by omega
    have j3 : decide ((i : Int) < 12) = true := by simp; omega
    have j4 : decide (i < 12) = true := by simpa using hlt
    have j5 : (i : Int) < 12 := by omega
    have wj : wrap64 ((i : Int) + 1) = ((i + 1 : Nat) : Int) := by unfold wrap64; omega
    have HIJ : Hid (i64ok (i : Int)) := hid ⟨by omega, by omega⟩
    obtain ⟨q1, q2⟩ := hS'.out.read hlt
    have Q1 := hid q1
    have Q2 := hid q2
    obtain ⟨q, hq⟩ : ∃ q : Nat, q = 97 + i := ⟨_, rfl⟩
    have u1 : (97 : Int) + (i : Int) = (q : Int) := by omega
    have u2 : wrap64 (q : Int) = (q : Int) := by unfold wrap64; omega
    have u3 : (q : Int) % 256 = (q : Int) := by omega
    have u4 : IntKind.u8.wrap (q : Int) = (q : Int) := wrap8 (by omega)
    have HQ := hid hq
    clear q1 q2 hq hlt
    go_wp2_with fail
    refine (pread_on (C := fun P => P) Foc.self hV.out pz pz_wf (i : Int) HIJ.out).mono ?_
    rintro e w7 ⟨A7, n7, k7, rfl, ho7, -, hb7⟩
    rw [Q1.out]
    rw [Q2.out] at ho7
    have HV7 := hid (hV.out.go (PV.ok _ _ _ _) hb7)
    have HK7 := hid (hK.out.keep (hb7.block ab hK.out.lt))
    have c7 : w7.cell? ⟨ab, i, none⟩ = some (.int .i64 (ts i : Int)) := (HK7.out.cell i).trans (tsc_get ts HLT.out)
    clear hb7 hV hK
    by_cases heq : ts i = i
    · rw [if_pos heq]
      rw [if_pos heq, ← HQ.out] at ho7
      rw [heq] at c7
      have hst := own_str ho7
      have hcb := conv_byte w7 (j := q) (by have := HQ.out; have := HLT.out; omega)
      have s1 : (i == i) = true := by simp
      have HV8 := hid (HV7.out.go (PV.ok _ _ _ _) (wr' := w7.alloc (.cells #[.int .u8 (q : Int)] 5)) ((Below.refl _ _).alloc (Nat.le_refl _) _))
      have HK8 := hid (HK7.out.keep (w' := w7.alloc (.cells #[.int .u8 (q : Int)] 5)) (((Below.refl w7.heap.size w7).alloc (Nat.le_refl _) _).block ab HK7.out.lt))
      have c8 : (w7.alloc (.cells #[.int .u8 (q : Int)] 5)).cell? ⟨ab, i, none⟩ = some (.int .i64 (i : Int)) := by
        have := (HK8.out.cell i).trans (tsc_get ts HLT.out)
        rw [this, heq]
      clear heq ho7 HV7 HK7
      as_aux_lemma =>
      go_wp2_with fail
      go_roundg (12 - (i + 1))
      case measure => have := hgk.out; have := HLT.out; omega
      case rel => exact ⟨i + 1, congrArg (Value.int .i64) (by first | exact wj | omega | rfl), hid rfl, hid (by have := HLT.out; omega), HV8, HK8⟩
    · rw [if_neg heq]
      obtain ⟨T, hT⟩ : ∃ T : Nat, ts i = T := ⟨_, rfl⟩
      rw [hT] at c7 heq
      have s1 : ((T : Int) == (i : Int)) = false := by simp; omega
      have s2 : decide ((T : Int) = (i : Int)) = false := by simp; omega
      have s3 : (T == i) = false := by simpa using heq
      have s4 : decide (T = i) = false := by simpa using heq
      have s5 : ¬ T = i := heq
      clear heq ho7 hT
      as_aux_lemma =>
      go_wp2_with fail
      go_roundg (12 - (i + 1))
      case measure => have := hgk.out; have := HLT.out; omega
      case rel => exact ⟨i + 1, congrArg (Value.int .i64) (by first | exact wj | omega | rfl), hid rfl, hid (by have := HLT.out; omega), HV7, HK7⟩
  · have j3 : decide ((i : Int) < 12) = false := by simp; omega
    have j4 : decide (i < 12) = false := by simp; omega
    clear hge
    as_aux_lemma =>
    go_wp2
    go_ret
    exact ⟨rfl, hV.out.below⟩
end Go.Proofs.Ytbkcjpogafkoeaa
