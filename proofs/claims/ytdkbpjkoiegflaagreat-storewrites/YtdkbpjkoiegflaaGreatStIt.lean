/- The names of a map of blobs, sorted: slices.Sorted(maps.Keys(m)) by the library's contracts; maps.Copy into a map that is new; nothing is assumed. -/
import Derived.Test.YtdkbpjkoiegflaaGreatIter
import Derived.Test.YtdkbpjkoiegflaaGreatStSt
import Derived.Lib.SlMapMerge
import Derived.Maps.Ext
import Derived.Laws.IdiomRangeMap
namespace Go.Proofs.YtdkbpjkoiegflaaGreat
open Go.RowKit Go.Maps Go.Sort Go.Shelf

theorem iterSorts (m : Nat) : AnyZ.SortsIn Tryz.prog Tryz.iterSorted_ren Fence.wide m :=
  ⟨fun blk off cap ss W hH hblk hsz => callsIn_wide.2 (AnyM.slices_Sort_string Tryz.iterSort blk off cap ss W hH hblk hsz),
   fun p cap W => callsIn_wide.2 (AnyM.slices_Sort_string_none Tryz.iterSort p cap W)⟩
theorem keysOf_c (b : Nat) (w : World) : Calls Tryz.prog 105 #[.map (some b)] w fun e w' => e = .returned (.func (.func 135) #[] #[.pointer (some ⟨w.heap.size, 0, none⟩)]) ∧ w' = w.alloc (.cells #[.map (some b)] 122) :=
  (callsIn_wide (n := 5)).1 (AnyZ.keys_in Tryz.iterKeys Fence.wide 5 trivial rfl (some b) w)
set_option maxHeartbeats 1000000 in
theorem sortedKeys_c (b : Nat) (L : List Bb) (w : World) (h : BMp w b L) (hr : L.Pairwise risen) (hl : L.length ≤ 1000000) : Calls Tryz.prog 104 #[.func (.func 135) #[] #[.pointer (some ⟨w.heap.size, 0, none⟩)]] (w.alloc (.cells #[.map (some b)] 122)) fun e w' => ∃ A c, e = .returned (.slice A L.length c) ∧
      w'.ownsRow w.heap.size 9 1 (.slice A L.length c) L.length ((L.map Bb.nm).map fun l => .string (str l)) ∧ Below w.heap.size w w' := by
  have hown : w.ownsMap (H := Unit) Tryz.prog 9 rB b L.length (bD L) := h
  have hbl := hown.lt
  have hmax : Maps.size (bD L) ≤ maxLen := by rw [bD_size]; unfold maxLen; omega
  have hbytes : Maps.size (bD L) * 16 ≤ 140737488355328 := by rw [bD_size]; omega
  have hseq : SeqGives Fence.wide 2 Tryz.prog 135 #[.pointer (some ⟨w.heap.size, 0, none⟩)] encStr (fun ss => ss.Perm (strKeys (bD L))) (Maps.size (bD L)) (w.alloc (.cells #[.map (some b)] 122)) :=
    AnyZ.keys_gives (ρ := Tryz.iterKeys_ren) { Tryz.iterKeys with } Fence.wide _ trivial rfl (by omega) w.heap.size b L.length (bD L) _ (by simp) (by simp) (by
      obtain ⟨es, clock, hb, Ft, hs, hD⟩ := hown
      exact ⟨es, clock, (Below.heap_alloc _ _ b hbl).trans hb, Ft, hs, hD⟩)
  have hc : CallsIn Fence.wide 5 Tryz.prog 104 #[.func (.func 135) #[] #[.pointer (some ⟨w.heap.size, 0, none⟩)]] (w.alloc (.cells #[.map (some b)] 122)) fun e w' => ∃ (v : Value) (ss : List (List UInt8)), e = .returned v ∧ ss.Perm (strKeys (bD L)) ∧
      w'.ownsRow (w.alloc (.cells #[.map (some b)] 122)).heap.size 9 1 v ss.length ((ss.mergeSort (fun x y => decide (x ≤ y))).map encStr) ∧ (v = .slice none 0 0 ↔ ss = []) ∧ Below (w.alloc (.cells #[.map (some b)] 122)).heap.size (w.alloc (.cells #[.map (some b)] 122)) w' :=
    AnyZ.sorted_in Tryz.iterSorted Fence.wide 5 trivial trivial trivial trivial rfl (by omega) (iterSorts _) (enters_of Tryz.func134 (by kernel_rfl) rfl) 135 #[.pointer (some ⟨w.heap.size, 0, none⟩)] trivial (enters_of Tryz.func135 (by kernel_rfl) rfl) _ _ hmax hbytes _ hseq
  refine ((callsIn_wide (n := 5)).1 hc).mono ?_
  rintro e w' ⟨v, ss, rfl, hS, hrow, -, hb⟩
  rw [bD_keys] at hS
  have hlen : ss.length = L.length := by rw [hS.length_eq, List.length_map]
  rw [names_sort hr hS, hlen] at hrow
  have hsz : (w.alloc (.cells #[.map (some b)] 122)).heap.size = w.heap.size + 1 := by simp
  rw [hsz] at hrow hb
  obtain ⟨A, c, rfl, _⟩ := own_form hrow
  exact ⟨A, c, rfl, ownsRow_base_a hrow (by omega), ((Below.refl _ w).alloc (Nat.le_refl _) _).trans (hb.mono (by omega))⟩

theorem with_end {P : List Bb} {b : Bb} (h : ∀ x ∈ P, risen x b) : with_ (without P b.nm) b = P ++ [b] := by
  have e : without P b.nm = P := by
    unfold without
    rw [List.filter_eq_self]
    intro x hx
    simpa using less_ne (h x hx)
  rw [e]
  clear e
  induction P with
  | nil => rfl
  | cons x r ih =>
    have h1 : ¬ Op.bytesLess b.nm x.nm = true := fun e => less_ne (less_trans e (h x (by simp))) rfl
    rw [with_, if_neg h1, ih fun y hy => h y (by simp [hy])]
    rfl
theorem fold_put : ∀ (L P : List Bb), (P ++ L).Pairwise risen → (L.map fun x => (Lit.string x.nm, bd x)).foldl (fun (D : DataW Unit) p => D.put p.1 p.2) (bD P) = bD (P ++ L)
  | [], P, _ => by simp
  | b :: r, P, h => by
    rw [List.map_cons, List.foldl_cons, bD_put, with_end fun x hx => (List.pairwise_append.1 h).2.2 x hx b (by simp)]
    have := fold_put r (P ++ [b]) (by simpa using h)
    rw [this]
    simp
set_option maxRecDepth 100000 in
theorem mergeD_nil (L : List Bb) (hr : L.Pairwise risen) : Lib.mergeD (bD []) (bD L) = bD L := by
  have h := fold_put L [] (by simpa using hr)
  exact h
set_option maxHeartbeats 4000000 in
set_option maxRecDepth 100000 in
/-- maps.Copy(dst, src), dst being a map with nothing in it. -/
theorem mapsCopy_c (bd' bs' : Nat) (L : List Bb) (w : World) (hd : BMp w bd' []) (hs : BMp w bs' L) (hne : bd' ≠ bs') (hr : L.Pairwise risen) (hl : L.length ≤ 1000000) :
    Calls Tryz.prog 90 #[.map (some bd'), .map (some bs')] w fun e w' => e = .returned (.tuple #[]) ∧ BMp w' bd' L ∧ w.grownBy w' (some bd') := by
  have hbd := hd.lt
  have hbs := hs.lt
  have HD : Hid (w.ownsMap (H := Unit) Tryz.prog 9 rB bd' 0 (bD [])) := hid hd
  have HS : Hid (w.ownsMap (H := Unit) Tryz.prog 9 rB bs' L.length (bD L)) := hid hs
  have HR := hid hr
  have HL := hid hl
  clear hd hs hr hl
  go_enter Tryz.func90, Tryz.ntmps90
  go_wp2_with (first
    | (at_range; refine wpList_range_own _ rfl _ 122 rfl 9 90 Tryz.lawStr Tryz.underlying122 rB bs' L.length _ rfl HS.out ?_; intro w0 hrg0 hg0 hs0)
    | go_in)
  go_frame
  go_loopw [8] (fun _ wr => ∃ (left : Lit → Bool) (cnt : Nat) (Dout : DataW Unit), wr.ranges Tryz.prog 9 rB bs' w.heap.size L.length (bD L) left cnt ∧ cnt ≤ Maps.size (bD L) ∧
      wr.ownsMap Tryz.prog 9 rB bd' (Maps.size (bD L) - cnt) Dout ∧ Merged Dout (bD []) (bD L) left ∧ w.grownBy wr (some bd'))
    (fun _ wr => wr.rangeLeft bs' w.heap.size)
  case atStart =>
    exact ⟨_, _, bD [], hrg0, Nat.le_refl _, (HD.out.kept hg0 (by simp)).mono (by omega), merged_start (bD []) (bD L), hg0.but _⟩
  case round =>
    obtain ⟨left, cnt, Dout, hrg, hcs, hout, hM, hgw⟩ := hrel
    go_wp2_with (first
      | (at_next; refine wpList_next_ranges _ rfl _ rfl 9 Tryz.lawStr rB (fun nm : List UInt8 => .string (str nm)) (fun x : Bb => (.agg #[.string (str (x).nm), .int .i64 (x).k.t, .int .i64 (x).k.c, .int .i64 (x).k.e, .int .i64 (x).b, .int .i64 (x).p.k.t, .int .i64 (x).p.k.c, .int .i64 (x).p.k.e, .int .i64 (x).p.id, .int .i64 (x).p.ver, .int .i64 (x).sz])) (fun key kl hk => by obtain ⟨x, hx, _⟩ := Maps.keyOf_str Tryz.underlying9 hk; exact ⟨x, hx⟩) (fun v _ hv => by obtain ⟨x, hx, _⟩ := rB_inv hv; exact ⟨x, hx⟩) bs' w.heap.size L.length _ _ _ rfl hrg ?_ ?_)
      | go_in)
    · intro hc0 hl0
      go_wp2
      go_end0
      subst hc0
      have e := merged_eq Tryz.lawStr.one hM hl0 (hout.canon Tryz.lawStr) (HD.out.canonK Tryz.lawStr) (HS.out.canonK Tryz.lawStr)
      rw [mergeD_nil L HR.out] at e
      subst e
      exact ⟨rfl, BMp.of hout, hgw⟩
    · intro x c kl yd yp w1 cnt1 hkey hlx hv hat hrg1 hlt hg1 hs1 hen
      have hout1 := hout.kept hg1 (fun e => by have := Option.some.inj e; omega)
      have hb2 : Below w1.heap.size w1 (w1.alloc (.cells #[.string (str (c).nm), .int .i64 (c).k.t, .int .i64 (c).k.c, .int .i64 (c).k.e, .int .i64 (c).b, .int .i64 (c).p.k.t, .int .i64 (c).p.k.c, .int .i64 (c).p.k.e, .int .i64 (c).p.id, .int .i64 (c).p.ver, .int .i64 (c).sz] 90)) := (Below.refl _ _).alloc (Nat.le_refl _) _
      have hg2 := World.grownBy_alloc w1 (.cells #[.string (str (c).nm), .int .i64 (c).k.t, .int .i64 (c).k.c, .int .i64 (c).k.e, .int .i64 (c).b, .int .i64 (c).p.k.t, .int .i64 (c).p.k.c, .int .i64 (c).p.k.e, .int .i64 (c).p.id, .int .i64 (c).p.ver, .int .i64 (c).sz] 90) none
      have hx : ∃ b0 : Bb, kl = .string x ∧ yd = bd c ∧ yp = ([] : List MemPlace) ∧ x.length ≤ maxLen ∧ b0 = c := by
        obtain ⟨x', ex, rfl, hx'⟩ := Maps.keyOf_str Tryz.underlying9 hkey
        obtain rfl : x = x' := encStr_inj ex
        have e : rB (.agg #[.string (str (c).nm), .int .i64 (c).k.t, .int .i64 (c).k.c, .int .i64 (c).k.e, .int .i64 (c).b, .int .i64 (c).p.k.t, .int .i64 (c).p.k.c, .int .i64 (c).p.k.e, .int .i64 (c).p.id, .int .i64 (c).p.ver, .int .i64 (c).sz]) = some (bd c, []) := rB_val c
        rw [hv] at e
        injection e with e
        injection e with e1 e2
        exact ⟨c, rfl, e1, e2, hx', rfl⟩
      obtain ⟨_, rfl, rfl, rfl, hxl, -⟩ := hx
      have HV : Hid (rB (.agg #[.string (str (c).nm), .int .i64 (c).k.t, .int .i64 (c).k.c, .int .i64 (c).k.e, .int .i64 (c).b, .int .i64 (c).p.k.t, .int .i64 (c).p.k.c, .int .i64 (c).p.k.e, .int .i64 (c).p.id, .int .i64 (c).p.ver, .int .i64 (c).sz]) = some (bd c, [])) := hid hv
      have HKY := hid hkey
      have HAT := hid hat
      have HCS := hid hcs
      have HLT := hid hlt
      have HHS : Hid (w1.heap.size = wr.heap.size) := hid hs1
      have HLX := hid hlx
      have HG1 := hid hg1
      have HRG := hid hrg
      clear hs1 hlx hkey hat hcs hlt hv hg1 hrg hout
      have hb2 : Below w1.heap.size w1 (w1.alloc (.cells #[.string (str (c).nm), .int .i64 (c).k.t, .int .i64 (c).k.c, .int .i64 (c).k.e, .int .i64 (c).b, .int .i64 (c).p.k.t, .int .i64 (c).p.k.c, .int .i64 (c).p.k.e, .int .i64 (c).p.id, .int .i64 (c).p.ver, .int .i64 (c).sz] 90)) := (Below.refl _ _).alloc (Nat.le_refl _) _
      have hg2 := World.grownBy_alloc w1 (.cells #[.string (str (c).nm), .int .i64 (c).k.t, .int .i64 (c).k.c, .int .i64 (c).k.e, .int .i64 (c).b, .int .i64 (c).p.k.t, .int .i64 (c).p.k.c, .int .i64 (c).p.k.e, .int .i64 (c).p.id, .int .i64 (c).p.ver, .int .i64 (c).sz] 90) none
      have hk2 := Blk.new w1 90 #[.string (str (c).nm), .int .i64 (c).k.t, .int .i64 (c).k.c, .int .i64 (c).k.e, .int .i64 (c).b, .int .i64 (c).p.k.t, .int .i64 (c).p.k.c, .int .i64 (c).p.k.e, .int .i64 (c).p.id, .int .i64 (c).p.ver, .int .i64 (c).sz]
      obtain ⟨c0, c1, c2, c3, c4, c5, c6, c7, c8, c9, c10⟩ := bbB_cells (x := c) hk2
      have HOUT2 := hid (hout1.kept hg2 (by simp))
      have HG2 := hid hg2
      have HRG2 := hid (hrg1.kept hg2 (by simp) (by simp))
      clear hb2 hg2 hk2 hout1 hrg1
      go_wp2_with (first
        | (at_mapUpdate; refine wpList_mapUpdate_own _ rfl _ _ _ 122 rfl 9 90 Tryz.lawStr Tryz.underlying122 rB bd' _ _ rfl HOUT2.out ?hroom _ _ _ rfl rfl HKY.out (bd c) [] HV.out ?_)
        | go_in)
      case hroom => rw [bD_size]; unfold maxLen; have := HL.out; omega
      intro w2 hout2 hg3
      try go_frame
      have hrg2 := HRG2.out.kept hg3 (fun e => hne (Option.some.inj e).symm) (fun e => by have := Option.some.inj e; omega)
      go_roundw
      case rel =>
        exact ⟨_, _, _, _, _, _, _, _, _, _, ⟨_, cnt1, _, hrg2, by have := HCS.out; have := HLT.out; omega, hout2.mono (by have := HCS.out; have := HLT.out; omega), merged_step hM HOUT2.out.isMap (Tryz.lawStr.key HKY.out) HAT.out, ((hgw.andThen HG1.out (fun j hj => .inl (by cases hj; exact Nat.le_refl _))).andThen HG2.out (fun j hj => by cases hj)).andThen hg3 (fun j hj => .inr hj)⟩, rfl⟩
      case measure => rw [hrg2.left_eq, HRG.out.left_eq]; exact HLT.out
end Go.Proofs.YtdkbpjkoiegflaaGreat
