/- What package bitmap returns: Put, Get, Count. Nothing is assumed. -/
import Derived.Test.YtejmllpffocneaaBmMath
import Derived.Test.YtejmllpffocneaaMemO
import Derived.BigQuiet
namespace Go.Proofs.Ytejmllpffocneaa
open Go.RowKit

theorem Try.info8_ : (Try.prog.info? 5).map (fun i => (i.zero, i.size, i.bytes)) = some (some (.int .u8 0), 1, 1) := by kernel_rfl
theorem Try.infoB_ : (Try.prog.info? 4).map (fun i => (i.zero, i.size, i.bytes)) = some (some (.bool false), 1, 1) := by kernel_rfl
theorem or_bit_all : ∀ x : Fin 256, ∀ r : Fin 8, bits .or .u8 (x.val : Int) (2 ^ r.val % 256) = ((UInt8.ofNat (x.val ||| 2 ^ r.val)).toNat : Int) := by decide +kernel
theorem or_bit (x : UInt8) {r : Nat} (hr : r < 8) : bits .or .u8 (x.toNat : Int) (2 ^ r % 256) = ((UInt8.ofNat (x.toNat ||| 2 ^ r)).toNat : Int) := or_bit_all ⟨x.toNat, x.toNat_lt⟩ ⟨r, hr⟩
theorem bs_set_v {l : List UInt8} {k : Nat} {v : Int} {b : UInt8} (h : v = (b.toNat : Int)) : (bs l).set k (.int .u8 v) = bs (l.set k b) := by rw [h, bs_set]
theorem w64_nat {m : Nat} (h : m ≤ 1000000) : wrap64 (m : Int) = (m : Int) := by unfold wrap64; omega
theorem shr_zero (x r : Nat) : ((x : Int) / 2 ^ r == 0) = (x / 2 ^ r == 0) := by
  have h : (x : Int) / 2 ^ r = ((x / 2 ^ r : Nat) : Int) := by simp
  rw [h]
  generalize x / 2 ^ r = y
  cases y <;> rfl
theorem cl_m {k N m : Nat} (h : N ≤ 1000000) (hb : k = nby N) (hm : k = m + 1) : m ≤ 1000000 := by unfold nby at hb; omega
theorem cl_r {r : Nat} (h : 0 < r) : ((r : Int) == 0) = false := by simp; omega
theorem own_zeros {w w1 : World} {m : Nat} {e : TypeId} {z : Value} (hblk : w1.heap[w.heap.size]? = some (.cells (zeros m z).toArray e (0, 0))) (hm : m ≤ maxLen) :
    w1.ownsRow w.heap.size e 1 (.slice (some ⟨w.heap.size, 0, none⟩) m m) m (zeros m z) :=
  ⟨by simp [zeros_len], .inr ⟨_, _, _, rfl, Nat.le_refl _, hblk, Nat.le_refl _, hm, by simp [zeros_len], by rw [Nat.mul_one]; rw [List.take_of_length_le (by simp [zeros_len])]⟩⟩
set_option maxRecDepth 100000 in
set_option maxHeartbeats 8000000 in
theorem bytesFor_c (n : Nat) (hn : n ≤ 9223372036854775807) (w : World) : Calls Try.prog 33 #[.int .i64 (n : Int)] w fun e w' => e = .returned (.int .i64 ((nby n : Nat) : Int)) ∧ w = w' := by
  have HN := hid hn
  by_cases h : n % 8 = 0
  · have e1 : ((n : Int) % 8 == 0) = true := by simp; omega
    have e2 : (Int.tmod (n : Int) 8 == 0) = true := by rw [Int.tmod_eq_emod_of_nonneg (by omega)]; exact e1
    have e3 : (n : Int) % 8 = 0 := by omega
    have e4 : Int.tmod (n : Int) 8 = 0 := by rw [Int.tmod_eq_emod_of_nonneg (by omega)]; exact e3
    have HH := hid h
    clear h hn
    go_enter Try.func33, Try.ntmps33
    go_wp2
    go_ret
    exact ⟨congrArg (fun z => Ending.returned (Value.int .i64 z)) (by have := HN.out; have := HH.out; first | (unfold wrap64 nby; omega) | (unfold nby; omega)), rfl⟩
  · have e1 : ((n : Int) % 8 == 0) = false := by simp; omega
    have e2 : (Int.tmod (n : Int) 8 == 0) = false := by rw [Int.tmod_eq_emod_of_nonneg (by omega)]; exact e1
    have e3 : ¬ (n : Int) % 8 = 0 := by omega
    have e4 : ¬ Int.tmod (n : Int) 8 = 0 := by rw [Int.tmod_eq_emod_of_nonneg (by omega)]; exact e3
    have HH := hid h
    clear h hn
    go_enter Try.func33, Try.ntmps33
    go_wp2
    go_ret
    exact ⟨congrArg (fun z => Ending.returned (Value.int .i64 z)) (by have := HN.out; have := HH.out; first | (unfold wrap64 nby; omega) | (unfold nby; omega)), rfl⟩
def RowB (w : World) (l : List UInt8) (e : Ending) (w' : World) : Prop := ∃ A c, e = .returned (.slice A l.length c) ∧ l.length ≤ c ∧ w'.ownsRow w.heap.size 5 1 (.slice A l.length c) l.length (bs l) ∧ Below w.heap.size w w'
def bls (l : List Bool) : List Value := l.map Value.bool
set_option maxRecDepth 100000 in
set_option maxHeartbeats 8000000 in
theorem bput_c {w : World} {n c : Nat} {A : Option Addr} {l : List Bool} (h : Lst w 0 w.heap.size A n (bls l)) (hn : n ≤ 100000) :
    Calls Try.prog 17 #[.slice A n c] w (RowB w (bmP l)) := by
  have hl : l.length = n := by have := h.1; simpa [bls] using this
  subst hl
  have HL := hid h
  have HN := hid hn
  clear h hn
  go_enter Try.func17, Try.ntmps17
  go_wp2_with fail
  refine (bytesFor_c l.length (by have := HN.out; omega) _).mono ?_
  rintro e w0 ⟨rfl, rfl⟩
  go_wp2_with (at_make; refine wpList_make_new _ rfl _ _ 24 rfl 5 (.int .u8 0) 1 Try.underlying24 Try.info8_ rfl _ _ (nby l.length) (nby l.length) rfl rfl rfl rfl (Nat.le_refl _) (by have := HN.out; unfold nby; omega) (by have := HN.out; unfold nby; omega) ?_)
  intro w1 hblk hgr hlt
  have hb1 : Below w.heap.size w w1 := grown_below hgr (Nat.le_refl _) (fun k h => by cases h)
  have HO : Hid (w1.ownsRow w.heap.size 5 1 (.slice (some ⟨w.heap.size, 0, none⟩) (nby l.length) (nby l.length)) (nby l.length) (bs (bmK l 0))) := hid (by
    have := own_zeros hblk.out (by have := HN.out; unfold maxLen nby; omega)
    rwa [show zeros (nby l.length) (Value.int .u8 0) = bs (bmK l 0) by rw [bmK_zero]; simp [zeros, bs]] at this)
  have HLT := hid hlt
  clear hblk hgr hlt
  go_wp2_with fail
  go_loopg [12] l.length (fun kk iv wr => ∃ j : Nat, iv = .int .i64 (j : Int) ∧ Hid (kk = l.length - j) ∧ Hid (j ≤ l.length) ∧ Hid (Below w.heap.size w wr) ∧ Hid (wr.ownsRow w.heap.size 5 1 (.slice (some ⟨w.heap.size, 0, none⟩) (nby l.length) (nby l.length)) (nby l.length) (bs (bmK l j))))
  case atStart => exact ⟨0, rfl, hid rfl, hid (Nat.zero_le _), hid hb1, HO⟩
  case round =>
    obtain ⟨j, rfl, hgk, hj, hB, hO⟩ := hrel
    clear HO hb1
    rename World => wr
    rcases Nat.lt_or_ge j l.length with hlt | hge
    · have j1 : (0 : Int) ≤ (j : Int) := by omega
      have j2 : (j : Int) < (l.length : Int) := by omega
      have j3 : decide ((j : Int) < (l.length : Int)) = true := by simpa using hlt
      have wj : wrap64 ((j : Int) + 1) = ((j + 1 : Nat) : Int) := by have := HN.out; unfold wrap64; omega
      obtain ⟨ga, oa, rfl, _, hga, hcell⟩ := (HL.out.below hB.out (Nat.le_refl _)).at_ hlt
      have hx : (bls l)[j]'(by simpa [bls] using hlt) = .bool l[j] := by simp [bls]
      have HJ := hid hlt
      have hjb : j / 8 < nby l.length := by unfold nby; omega
      obtain ⟨u, hu⟩ : ∃ u, u = l[j] := ⟨_, rfl⟩
      replace hcell : wr.cell? ⟨ga, oa + j, none⟩ = some (.bool u) := hcell.trans (congrArg some (hx.trans (congrArg Value.bool hu.symm)))
      cases hc : u with
      | false =>
        rw [hc] at hcell hu
        have HO2 : Hid (wr.ownsRow w.heap.size 5 1 (.slice (some ⟨w.heap.size, 0, none⟩) (nby l.length) (nby l.length)) (nby l.length) (bs (bmK l (j + 1)))) := hid (by rw [bmK_no hlt hu.symm]; exact hO.out)
        clear hc hu hx hO hjb hlt
        go_wp2_with fail
        go_roundg (l.length - (j + 1))
        case measure => have := hgk.out; have := HJ.out; omega
        case rel => exact ⟨j + 1, by first | rfl | rw [wj], hid rfl, hid HJ.out, hB, HO2⟩
      | true =>
        rw [hc] at hcell hu
        have hjl : j / 8 < (bmK l j).length := by rw [bmK_len]; exact hjb
        obtain ⟨x, hx2⟩ : ∃ x, x = (bmK l j)[j / 8] := ⟨_, rfl⟩
        have HS := bmK_yes hlt hu.symm hjl
        rw [← hx2] at HS
        have HSS := hid HS
        have hcx : wr.cell? ⟨w.heap.size, j / 8, none⟩ = some (.int .u8 (x.toNat : Int)) := by
          obtain ⟨g, off, hA, _, _, hc2⟩ := (Bts.own hO.out).at_ hjb
          injection hA with hA
          injection hA with h1 h2 _
          subst h1 h2
          rw [Nat.zero_add] at hc2
          rw [hc2, hx2]
        have hfr : wr.frozen? ⟨w.heap.size, j / 8, none⟩ = false := by
          obtain ⟨g, hA, _, _, hf⟩ := own_some hO.out (by omega)
          injection hA with hA
          injection hA with h1 _ _
          subst h1
          exact hf _
        have hr8 : j % 8 < 8 := Nat.mod_lt _ (by omega)
        obtain ⟨r, hr⟩ : ∃ r, r = j % 8 := ⟨_, rfl⟩
        obtain ⟨q, hq⟩ : ∃ q, q = j / 8 := ⟨_, rfl⟩
        have q3 : Int.tdiv (j : Int) 8 = (q : Int) := by rw [Int.tdiv_eq_ediv_of_nonneg (by omega)]; omega
        have q4 : (j : Int) / 8 = (q : Int) := by omega
        have q1 : Int.tmod (j : Int) 8 = (r : Int) := by rw [Int.tmod_eq_emod_of_nonneg (by omega)]; omega
        have q2 : (j : Int) % 8 = (r : Int) := by omega
        have k1 : (q : Int) < ((nby l.length : Nat) : Int) := by omega
        have k2 : (0 : Int) ≤ (q : Int) := by omega
        have k3 : (0 : Int) ≤ (r : Int) := by omega
        have k4 : decide ((r : Int) < 0) = false := by simp
        have k6 : IntKind.i64.wrap (q : Int) = (q : Int) := IntWalk.i64_in _ (by have := HN.out; omega)
        have k8 : IntKind.i64.wrap (r : Int) = (r : Int) := IntWalk.i64_in _ (by have := HN.out; omega)
        rw [← hq] at hcx hfr HSS
        have HQR := hid (And.intro hq hr)
        have HR8 : Hid (r < 8) := hid (by omega)
        clear hc hu hx HS hx2 hq hr hr8
        go_wp2_with fail
        refine wp_region_held_drew (S := fun _ => True) (by kernel_rfl) trivial (fun HS => ?_)
        refine wpAnyH_take (i := 0) (oi := ?oi0) (v := ?v0) ?hi0 (by kernel_rfl) (by kernel_rfl) (by kernel_rfl) ?hQ0 ?hy0 HS ?rest0
        case hi0 => simp only [List.getElem?_toArray, List.getElem?_cons_zero]; exact rfl
        case hQ0 => exact fun _ _ _ h => h
        case hy0 =>
          refine Or.inl ⟨by rfl, ?_⟩
          intro wS hSw
          go_simp
          try with_reducible rfl
        try simp only [Act.put, List.setIfInBounds_toArray, List.set_cons_zero, List.set_cons_succ]
        refine wpAnyH_take (i := 1) (oi := ?oi1) (v := ?v1) ?hi1 (by kernel_rfl) (by kernel_rfl) (by kernel_rfl) ?hQ1 ?hy1 HS ?rest1
        case hi1 => simp only [List.getElem?_toArray, List.getElem?_cons_succ, List.getElem?_cons_zero]; exact rfl
        case hQ1 => exact fun _ _ _ h => h
        case hy1 =>
          refine Or.inl ⟨by rfl, ?_⟩
          intro wS hSw
          go_simp
          try with_reducible rfl
        try simp only [Act.put, List.setIfInBounds_toArray, List.set_cons_zero, List.set_cons_succ]
        refine wpAnyH_take (i := 2) (oi := ?oi2) (v := ?v2) ?hi2 (by kernel_rfl) (by kernel_rfl) (by kernel_rfl) ?hQ2 ?hy2 HS ?rest2
        case hi2 => simp only [List.getElem?_toArray, List.getElem?_cons_succ, List.getElem?_cons_zero]; exact rfl
        case hQ2 => exact fun _ _ _ h => h
        case hy2 =>
          refine Or.inl ⟨by rfl, ?_⟩
          intro wS hSw
          go_simp
          try with_reducible rfl
        try simp only [Act.put, List.setIfInBounds_toArray, List.set_cons_zero, List.set_cons_succ]
        refine wpAnyH_take (i := 3) (oi := ?oi3) (v := ?v3) ?hi3 (by kernel_rfl) (by kernel_rfl) (by kernel_rfl) ?hQ3 ?hy3 HS ?rest3
        case hi3 => simp only [List.getElem?_toArray, List.getElem?_cons_succ, List.getElem?_cons_zero]; exact rfl
        case hQ3 => exact fun _ _ _ h => h
        case hy3 =>
          refine Or.inl ⟨by rfl, ?_⟩
          intro wS hSw
          go_simp
          try with_reducible rfl
        try simp only [Act.put, List.setIfInBounds_toArray, List.set_cons_zero, List.set_cons_succ]
        refine wpAnyH_take (i := 5) (oi := ?oi5) (v := ?v5) ?hi5 (by kernel_rfl) (by kernel_rfl) (by kernel_rfl) ?hQ5 ?hy5 HS ?rest5
        case hi5 => simp only [List.getElem?_toArray, List.getElem?_cons_succ, List.getElem?_cons_zero]; exact rfl
        case hQ5 => exact fun _ _ _ h => h
        case hy5 =>
          refine Or.inl ⟨by rfl, ?_⟩
          intro wS hSw
          go_simp
          try with_reducible rfl
        try simp only [Act.put, List.setIfInBounds_toArray, List.set_cons_zero, List.set_cons_succ]
        refine wpAnyH_take (i := 6) (oi := ?oi6) (v := ?v6) ?hi6 (by kernel_rfl) (by kernel_rfl) (by kernel_rfl) ?hQ6 ?hy6 HS ?rest6
        case hi6 => simp only [List.getElem?_toArray, List.getElem?_cons_succ, List.getElem?_cons_zero]; exact rfl
        case hQ6 => exact fun _ _ _ h => h
        case hy6 =>
          refine Or.inl ⟨by rfl, ?_⟩
          intro wS hSw
          go_simp
          try with_reducible rfl
        try simp only [Act.put, List.setIfInBounds_toArray, List.set_cons_zero, List.set_cons_succ]
        refine wpAnyH_take (i := 7) (oi := ?oi7) (v := ?v7) ?hi7 (by kernel_rfl) (by kernel_rfl) (by kernel_rfl) ?hQ7 ?hy7 HS ?rest7
        case hi7 => simp only [List.getElem?_toArray, List.getElem?_cons_succ, List.getElem?_cons_zero]; exact rfl
        case hQ7 => exact fun _ _ _ h => h
        case hy7 =>
          refine Or.inl ⟨by rfl, ?_⟩
          intro wS hSw
          go_simp
          try with_reducible rfl
        try simp only [Act.put, List.setIfInBounds_toArray, List.set_cons_zero, List.set_cons_succ]
        refine wpAnyH_ready (rs := [4]) (by kernel_rfl) (by simp) ?_
        refine AllReadyH.cons (o := ?o4) ?ho4 (fun K hK => ?step4) AllReadyH.nil
        case ho4 => simp only [List.getElem?_toArray, List.getElem?_cons_succ, List.getElem?_cons_zero]; exact rfl
        go_simp
        refine hK.out _ _ trivial (fun HS => ?_)
        clear hK K
        try simp only [Act.put, List.setIfInBounds_toArray, List.set_cons_zero, List.set_cons_succ]
        refine wpAnyH_take (i := 8) (oi := ?oi8) (v := ?v8) ?hi8 (by kernel_rfl) (by kernel_rfl) (by kernel_rfl) ?hQ8 ?hy8 HS ?rest8
        case hi8 => simp only [List.getElem?_toArray, List.getElem?_cons_succ, List.getElem?_cons_zero]; exact rfl
        case hQ8 => exact fun _ _ _ h => h
        case hy8 =>
          refine Or.inl ⟨by rfl, ?_⟩
          intro wS hSw
          go_simp
          try with_reducible rfl
        try simp only [Act.put, List.setIfInBounds_toArray, List.set_cons_zero, List.set_cons_succ]
        refine wpAnyH_take (i := 9) (oi := ?oi9) (v := ?v9) ?hi9 (by kernel_rfl) (by kernel_rfl) (by kernel_rfl) ?hQ9 ?hy9 HS ?rest9
        case hi9 => simp only [List.getElem?_toArray, List.getElem?_cons_succ, List.getElem?_cons_zero]; exact rfl
        case hQ9 => exact fun _ _ _ h => h
        case hy9 =>
          refine Or.inl ⟨by rfl, ?_⟩
          intro wS hSw
          go_simp
          try with_reducible rfl
        try simp only [Act.put, List.setIfInBounds_toArray, List.set_cons_zero, List.set_cons_succ]
        refine wpAnyH_ready (rs := [10]) (by kernel_rfl) (by simp) ?_
        refine AllReadyH.cons (o := ?o10) ?ho10 (fun K hK => ?step10) AllReadyH.nil
        case ho10 => simp only [List.getElem?_toArray, List.getElem?_cons_succ, List.getElem?_cons_zero]; exact rfl
        go_simp
        refine hK.out _ _ trivial (fun HS => ?_)
        clear hK K
        try simp only [Act.put]
        refine wpAnyH_done (by kernel_rfl) ?_ _
        go_wp2_with fail
        go_roundg (l.length - (j + 1))
        case measure => have := hgk.out; have := HJ.out; omega
        case rel =>
          have hv : bits .or .u8 (x.toNat : Int) (2 ^ r % 256) = ((UInt8.ofNat (x.toNat ||| 2 ^ r)).toNat : Int) := or_bit x HR8.out
          have ho1 := own_store (k := q) hO.out (.int .u8 (bits .or .u8 (x.toNat : Int) (2 ^ r % 256)))
          have hb1 : Below w.heap.size w (wr.setCell ⟨w.heap.size, q, none⟩ (.int .u8 (bits .or .u8 (x.toNat : Int) (2 ^ r % 256)))).drew := (hB.out.grown (grown_setCell _ _ _ _) hB.out.size (fun k hk => by injection hk with hk; omega)).drew
          refine ⟨j + 1, by first | rfl | rw [wj], hid rfl, hid HJ.out, hid hb1, hid ?_⟩
          have ho2 := own_bel ho1 ((Below.refl _ _).drew)
          have hss := HSS.out
          rw [← HQR.out.2] at hss
          rw [bs_set_v hv, ← hss] at ho2
          exact ho2
    · have hjn : j = l.length := by have := hj.out; omega
      subst hjn
      have j2 : ¬ (l.length : Int) < (l.length : Int) := by omega
      clear hge hj hgk
      go_wp2
      go_ret
      have HB := hB.out
      have HO := hO.out
      rw [bmK_all] at HO
      have e0 : nby l.length = (bmP l).length := (bmP_len l).symm
      rw [e0] at HO
      refine ⟨some ⟨w.heap.size, 0, none⟩, (bmP l).length, ?_, Nat.le_refl _, HO, HB⟩
      rw [← e0]
      rfl
/-- The table of package bits: how many ones a byte has. -/
def pop8 : List UInt8 := (([0, 1, 1, 2, 1, 2, 2, 3, 1, 2, 2, 3, 2, 3, 3, 4, 1, 2, 2, 3, 2, 3, 3, 4, 2, 3, 3, 4, 3, 4, 4, 5, 1, 2, 2, 3, 2, 3, 3, 4, 2, 3, 3, 4, 3, 4, 4, 5, 2, 3, 3, 4, 3, 4, 4, 5, 3, 4, 4, 5, 4, 5, 5, 6].append [1, 2, 2, 3, 2, 3, 3, 4, 2, 3, 3, 4, 3, 4, 4, 5, 2, 3, 3, 4, 3, 4, 4, 5, 3, 4, 4, 5, 4, 5, 5, 6, 2, 3, 3, 4, 3, 4, 4, 5, 3, 4, 4, 5, 4, 5, 5, 6, 3, 4, 4, 5, 4, 5, 5, 6, 4, 5, 5, 6, 5, 6, 6, 7]).append ([1, 2, 2, 3, 2, 3, 3, 4, 2, 3, 3, 4, 3, 4, 4, 5, 2, 3, 3, 4, 3, 4, 4, 5, 3, 4, 4, 5, 4, 5, 5, 6, 2, 3, 3, 4, 3, 4, 4, 5, 3, 4, 4, 5, 4, 5, 5, 6, 3, 4, 4, 5, 4, 5, 5, 6, 4, 5, 5, 6, 5, 6, 6, 7].append [2, 3, 3, 4, 3, 4, 4, 5, 3, 4, 4, 5, 4, 5, 5, 6, 3, 4, 4, 5, 4, 5, 5, 6, 4, 5, 5, 6, 5, 6, 6, 7, 3, 4, 4, 5, 4, 5, 5, 6, 4, 5, 5, 6, 5, 6, 6, 7, 4, 5, 5, 6, 5, 6, 6, 7, 5, 6, 6, 7, 6, 7, 7, 8]))
theorem pop8_all : ∀ x : Fin 256, pop8[x.val]? = some (UInt8.ofNat (c8 (bt x.val))) := by decide +kernel
theorem pop8_at (x : UInt8) : ((str pop8)[x.toNat]'(by rw [str_size]; exact (List.getElem?_eq_some_iff.1 (pop8_all ⟨x.toNat, x.toNat_lt⟩)).1)).toNat = c8 (bt x.toNat) := by
  obtain ⟨hi, hc⟩ := List.getElem?_eq_some_iff.1 (pop8_all ⟨x.toNat, x.toNat_lt⟩)
  have h1 : (str pop8)[x.toNat]'(by rw [str_size]; exact hi) = UInt8.ofNat (c8 (bt x.toNat)) := by
    show pop8.toArray[x.toNat]'(by simpa using hi) = _
    simpa using hc
  have h2 := congrArg UInt8.toNat h1
  have h3 := c8_le (bt x.toNat)
  rw [UInt8.toNat_ofNat', Nat.mod_eq_of_lt (by omega)] at h2
  exact h2
theorem take_snoc {α : Type} {l : List α} {j : Nat} (h : j < l.length) : l.take (j + 1) = l.take j ++ [l[j]] := by rw [List.take_add_one, List.getElem?_eq_getElem h]; rfl
/-- Is no bit behind the first n a 1? -/
def clb (b : List UInt8) (n : Nat) : Bool := n % 8 == 0 || (match b[b.length - 1]? with | some c => c.toNat / 2 ^ (n % 8) == 0 | none => false)
set_option maxRecDepth 100000 in
set_option maxHeartbeats 8000000 in
theorem clean_c {w : World} {hi n c : Nat} {A : Option Addr} {b : List UInt8} (h : Bts w 0 hi A n b) (N : Nat) (hN : N ≤ 1000000) (hb : b.length = nby N) :
    Calls Try.prog 37 #[.slice A n c, .int .i64 (N : Int)] w fun e w' => e = .returned (.bool (clb b N)) ∧ w = w' := by
  have hl := h.len
  subst hl
  have HL := hid h
  have HN := hid hN
  clear h hN
  obtain ⟨r, hr⟩ : ∃ r, r = N % 8 := ⟨_, rfl⟩
  have q1 : Int.tmod (N : Int) 8 = (r : Int) := by rw [Int.tmod_eq_emod_of_nonneg (by omega)]; omega
  have q2 : (N : Int) % 8 = (r : Int) := by omega
  have HR : Hid (r = N % 8 ∧ r < 8) := hid ⟨hr, by omega⟩
  have k8 : IntKind.i64.wrap (r : Int) = (r : Int) := IntWalk.i64_in _ (by omega)
  rcases Nat.eq_zero_or_pos r with h0 | h0
  · have e1 : ((r : Int) == 0) = true := by rw [h0]; rfl
    have e2 : (r : Int) = 0 := by omega
    have HC : Hid (clb b N = true) := hid (by unfold clb; rw [← hr, h0]; rfl)
    clear hr
    go_enter Try.func37, Try.ntmps37
    go_wp2
    go_ret
    exact ⟨by rw [HC.out]; rfl, rfl⟩
  · have hlen : 0 < b.length := by rw [hb]; unfold nby; omega
    have hlt : b.length - 1 < b.length := by omega
    obtain ⟨ga, oa, rfl, _, hga, hcell⟩ := HL.out.at_ hlt
    have HC : Hid (clb b N = (b[b.length - 1].toNat / 2 ^ r == 0)) := hid (by unfold clb; rw [← hr, List.getElem?_eq_getElem hlt]; simp; omega)
    generalize b[b.length - 1] = x at *
    obtain ⟨m, hm⟩ : ∃ m, b.length = m + 1 := ⟨b.length - 1, (Nat.sub_add_cancel hlen).symm⟩
    rw [hm] at hcell
    rw [hm]
    rw [Nat.add_sub_cancel] at hcell
    have e1 : ((r : Int) == 0) = false := cl_r h0
    have e2 : ¬ (r : Int) = 0 := fun e => absurd (Int.ofNat.inj e) (Nat.pos_iff_ne_zero.1 h0)
    have hm6 : m ≤ 1000000 := cl_m HN.out hb hm
    have e3 : wrap64 (m : Int) = (m : Int) := w64_nat hm6
    have e4 : (0 : Int) ≤ (m : Int) := Int.natCast_nonneg m
    have e5 : (m : Int) < ((m + 1 : Nat) : Int) := Int.ofNat_lt.2 (Nat.lt_succ_self m)
    have k3 : (0 : Int) ≤ (r : Int) := Int.natCast_nonneg r
    have k4 : decide ((r : Int) < 0) = false := by simp
    clear hr hlen hlt hm hb HL HN hm6
    go_enter Try.func37, Try.ntmps37
    go_wp2
    go_ret
    exact ⟨by rw [HC.out, ← shr_zero]; rfl, rfl⟩
end Go.Proofs.Ytejmllpffocneaa
