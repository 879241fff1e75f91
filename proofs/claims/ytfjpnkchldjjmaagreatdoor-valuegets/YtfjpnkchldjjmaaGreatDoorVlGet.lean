/- What value.Get returns: the value that stands next in a reader. -/
import Derived.Test.YtfjpnkchldjjmaaGreatDoorVlGetF
import Derived.Test.YtfjpnkchldjjmaaGreatDoorVlW4
import Derived.Test.YtfjpnkchldjjmaaGreatDoorVlMask
import Derived.Test.YtfjpnkchldjjmaaGreatDoorVlArg
import Derived.Deep.DeepCutAuto
import Derived.Deep.CutBlock
namespace Go.Proofs.YtfjpnkchldjjmaaGreatDoor
open Go.RowKit

theorem gr_put {w w' : World} {row : Option Nat} {h i : Nat} {u : Value} (hg : w.grownBy w' row) (hh : w.heap.size ≤ h) : w.grownBy (w'.setCell ⟨h, i, none⟩ u) row := by
  have hs := (Below.refl w'.heap.size w').size
  obtain ⟨h1, h2, h3, h4, h5⟩ := hg
  exact ⟨h1, h2, h3, by simpa [World.setCell] using h4, fun k hk hn => (Below.heap_setCell w' _ u k (by simp; omega)).trans (h5 k hk hn)⟩
theorem gr_put4 {w w' : World} {row : Option Nat} {h : Nat} {c0 c1 c2 c3 : Value} (hg : w.grownBy w' row) (hh : w.heap.size ≤ h) : w.grownBy ((((w'.setCell ⟨h, 0, none⟩ c0).setCell ⟨h, 1, none⟩ c1).setCell ⟨h, 2, none⟩ c2).setCell ⟨h, 3, none⟩ c3) row := gr_put (gr_put (gr_put (gr_put hg hh) hh) hh) hh
theorem gr_bel {w w' w'' : World} {row : Option Nat} (hg : w.grownBy w' row) (hb : Below w'.heap.size w' w'') : w.grownBy w'' row :=
  hg.trans ⟨hb.os, hb.tape, hb.output, hb.size, fun k hk _ => hb.block k hk⟩
theorem gr_alloc {w w' : World} {row : Option Nat} (hg : w.grownBy w' row) (o : Obj) : w.grownBy (w'.alloc o) row := hg.trans (World.grownBy_alloc w' o row)
theorem rd_put4 {w : World} {lo g h : Nat} {l : List UInt8} (hr : Rd w lo g l) (hh : g < h) (c0 c1 c2 c3 : Value) : Rd ((((w.setCell ⟨h, 0, none⟩ c0).setCell ⟨h, 1, none⟩ c1).setCell ⟨h, 2, none⟩ c2).setCell ⟨h, 3, none⟩ c3) lo g l :=
  hr.keep fun k _ hk => by
    rw [Below.heap_setCell _ _ _ k (by simp; omega), Below.heap_setCell _ _ _ k (by simp; omega), Below.heap_setCell _ _ _ k (by simp; omega), Below.heap_setCell _ _ _ k (by simp; omega)]
theorem rd_put {w : World} {lo g h i : Nat} {u : Value} {l : List UInt8} (hr : Rd w lo g l) (hh : g < h) : Rd (w.setCell ⟨h, i, none⟩ u) lo g l :=
  hr.keep fun k _ hk => Below.heap_setCell _ _ _ k (by simp; omega)
theorem rd_bel {w w' : World} {lo g : Nat} {l : List UInt8} (hr : Rd w lo g l) (hb : Below w.heap.size w w') : Rd w' lo g l := hr.keep fun k _ hk => hb.block k (by have := hr.lt; omega)
theorem blk_gr {w w' : World} {g h : Nat} {t : TypeId} {cs : Array Value} (hB : Blk w h t cs) (hg : w.grownBy w' (some g)) (hn : h ≠ g) : Blk w' h t cs := hB.keep (hg.block h hB.lt (fun e => hn (by injection e)))
def GetP (l : List UInt8) (w : World) (lo g : Nat) (e : Ending) (w' : World) : Prop :=
  w.grownBy w' (some g) ∧ ((∃ v k, vGet l = some (v, k) ∧ e = .returned (.tuple #[(.agg #[.int .i64 (vk v), .int .i64 (vn v), .string (str (vs v)), .int .u64 ((vf v : Nat) : Int)]), .bool true]) ∧ Rd w' lo g (l.drop k)) ∨ (vGet l = none ∧ e = .returned (.tuple #[(.agg #[.int .i64 (vk vNull), .int .i64 (vn vNull), .string (str (vs vNull)), .int .u64 ((vf vNull : Nat) : Int)]), .bool false])))
theorem kind_w (b : UInt8) : wrap64 (b.toNat : Int) = (b.toNat : Int) := by have := b.toNat_lt; unfold wrap64; omega

theorem vg_0 {b : UInt8} {r : List UInt8} (h : b.toNat = 0) : vGet (b :: r) = some (vNull, 1) := by simp [vGet, h]
theorem vg_1n {b : UInt8} {r : List UInt8} (h : b.toNat = 1) (hz : (rd r).2 = 0) : vGet (b :: r) = none := by simp [vGet, h, hz]
theorem vg_1s {b : UInt8} {r : List UInt8} (h : b.toNat = 1) (hz : 0 < (rd r).2) : vGet (b :: r) = some ((1, unfold_ (rd r).1, [], 0), 1 + (rd r).2) := by simp [vGet, h]; omega
theorem vg_2n {b : UInt8} (h : b.toNat = 2) : vGet (b :: []) = none := by simp [vGet, h]
theorem vg_2t {b c : UInt8} {r : List UInt8} (h : b.toNat = 2) (hc : c.toNat ≤ 1) : vGet (b :: c :: r) = some ((2, (c.toNat : Int), [], 0), 2) := by simp [vGet, h, hc]
theorem vg_2f {b c : UInt8} {r : List UInt8} (h : b.toNat = 2) (hc : ¬ c.toNat ≤ 1) : vGet (b :: c :: r) = none := by simp [vGet, h]; omega
theorem vg_3n {b : UInt8} {r : List UInt8} (h : b.toNat = 3) (hz : (rd r).2 = 0 ∨ 64 < (rd r).1 ∨ r.length - (rd r).2 < (rd r).1) : vGet (b :: r) = none := by
  simp only [vGet, h]
  rw [if_neg (by decide), if_neg (by decide), if_neg (by decide), if_pos trivial, if_pos hz]
theorem vg_3s {b : UInt8} {r : List UInt8} (h : b.toNat = 3) (hz : ¬ ((rd r).2 = 0 ∨ 64 < (rd r).1 ∨ r.length - (rd r).2 < (rd r).1)) : vGet (b :: r) = some ((3, 0, (r.drop (rd r).2).take (rd r).1, 0), 1 + (rd r).2 + (rd r).1) := by
  simp only [vGet, h]
  rw [if_neg (by decide), if_neg (by decide), if_neg (by decide), if_pos trivial, if_neg hz]
theorem vg_4n {b : UInt8} {r : List UInt8} (h : b.toNat = 4) (hz : r.length < 8) : vGet (b :: r) = none := by simp [vGet, h, hz]
theorem vg_4t {b : UInt8} {r : List UInt8} (h : b.toNat = 4) (hz : 8 ≤ r.length) (hc : fCanon (unle (r.take 8)) = unle (r.take 8)) : vGet (b :: r) = some ((4, 0, [], unle (r.take 8)), 9) := by
  have hz' : ¬ r.length < 8 := by omega
  simp only [vGet, h]
  rw [if_neg (by decide), if_neg (by decide), if_neg (by decide), if_neg (by decide), if_pos trivial, if_neg hz', if_pos hc]
theorem vg_4f {b : UInt8} {r : List UInt8} (h : b.toNat = 4) (hz : 8 ≤ r.length) (hc : ¬ fCanon (unle (r.take 8)) = unle (r.take 8)) : vGet (b :: r) = none := by
  have hz' : ¬ r.length < 8 := by omega
  simp only [vGet, h]
  rw [if_neg (by decide), if_neg (by decide), if_neg (by decide), if_neg (by decide), if_pos trivial, if_neg hz', if_neg hc]
theorem vg_x {b : UInt8} {r : List UInt8} (h : 4 < b.toNat) : vGet (b :: r) = none := by
  unfold vGet
  simp only
  rw [if_neg (by omega), if_neg (by omega), if_neg (by omega), if_neg (by omega), if_neg (by omega)]

/-- Behind the switch: whether there was a value's form, and the value of that form. -/
def GetR (l : List UInt8) (ok : Bool) (x : Vl) (wx : World) (lo g : Nat) : Prop :=
  vf x < 18446744073709551616 ∧ (ok = false → vGet l = none) ∧ (ok = true → (vRight x = false → vGet l = none) ∧ (vRight x = true → ∃ k, vGet l = some (x, k) ∧ Rd wx lo g (l.drop k)))
theorem byte_any (w : World) (lo g : Nat) (l : List UInt8) (h : Rd w lo g l) :
    Calls Tryz.prog 28 #[.pointer (some ⟨g, 0, none⟩)] w fun e w' => ∃ (ok : Bool) (c : UInt8), e = .returned (.tuple #[.int .u8 (c.toNat : Int), .bool ok]) ∧ w.grownBy w' (some g) ∧ (ok = false → l = []) ∧ (ok = true → ∃ r, l = c :: r ∧ Rd w' lo g r) := by
  cases l with
  | nil =>
    refine (byte_end w lo g h).mono ?_
    rintro e w' ⟨rfl, -, hg⟩
    exact ⟨false, 0, rfl, hg, fun _ => rfl, fun h => by cases h⟩
  | cons c r =>
    refine (byte_good w lo g c r h).mono ?_
    rintro e w' ⟨rfl, hr, hg⟩
    exact ⟨true, c, rfl, hg, fun h => (by cases h), fun _ => ⟨r, rfl, hr⟩⟩
theorem num_any (w : World) (lo g : Nat) (l : List UInt8) (h : Rd w lo g l) :
    Calls Tryz.prog 29 #[.pointer (some ⟨g, 0, none⟩)] w fun e w' => ∃ (ok : Bool) (x : Int), e = .returned (.tuple #[.int .i64 x, .bool ok]) ∧ w.grownBy w' (some g) ∧ (ok = false → (rd l).2 = 0) ∧ (ok = true → 0 < (rd l).2 ∧ x = unfold_ (rd l).1 ∧ Rd w' lo g (l.drop (rd l).2)) := by
  rcases Nat.eq_zero_or_pos (rd l).2 with hz | hz
  · refine (rnum_none w lo g l h hz).mono ?_
    rintro e w' ⟨rfl, -, hg⟩
    exact ⟨false, 0, rfl, hg, fun _ => hz, fun h => by cases h⟩
  · refine (rnum_some w lo g l h hz).mono ?_
    rintro e w' ⟨rfl, hr, hg⟩
    exact ⟨true, _, rfl, hg, fun h => (by cases h), fun _ => ⟨hz, rfl, hr⟩⟩
theorem txt_any (w : World) (lo g : Nat) (l : List UInt8) (h : Rd w lo g l) :
    Calls Tryz.prog 30 #[.pointer (some ⟨g, 0, none⟩)] w fun e w' => ∃ (ok : Bool) (x : List UInt8), e = .returned (.tuple #[.string (str x), .bool ok]) ∧ w.grownBy w' (some g) ∧ (ok = false → (rd l).2 = 0 ∨ l.length - (rd l).2 < (rd l).1) ∧ (ok = true → 0 < (rd l).2 ∧ (rd l).1 ≤ l.length - (rd l).2 ∧ x = (l.drop (rd l).2).take (rd l).1 ∧ Rd w' lo g ((l.drop (rd l).2).drop (rd l).1)) := by
  rcases Nat.eq_zero_or_pos (rd l).2 with hz | hz
  · refine (rtxt_none w lo g l h hz).mono ?_
    rintro e w' ⟨rfl, -, hg⟩
    exact ⟨false, [], rfl, hg, fun _ => .inl hz, fun h => by cases h⟩
  · have hd : (l.drop (rd l).2).length = l.length - (rd l).2 := List.length_drop
    rcases Nat.lt_or_ge (l.drop (rd l).2).length (rd l).1 with hl | hl
    · refine (rtxt_long w lo g l h hz hl).mono ?_
      rintro e w' ⟨rfl, -, hg⟩
      exact ⟨false, [], rfl, hg, fun _ => .inr (by omega), fun h => by cases h⟩
    · refine (rtxt_some w lo g l h hz hl).mono ?_
      rintro e w' ⟨rfl, hr, hg⟩
      exact ⟨true, _, rfl, hg, fun h => (by cases h), fun _ => ⟨hz, by omega, rfl, hr⟩⟩
theorem flt_any (w : World) (lo g : Nat) (l : List UInt8) (h : Rd w lo g l) :
    Calls Tryz.prog 31 #[.pointer (some ⟨g, 0, none⟩)] w fun e w' => ∃ (ok : Bool) (u : Nat), e = .returned (.tuple #[.int .u64 (u : Int), .bool ok]) ∧ w.grownBy w' (some g) ∧ u < 18446744073709551616 ∧ (ok = false → l.length < 8) ∧ (ok = true → 8 ≤ l.length ∧ u = unle (l.take 8) ∧ Rd w' lo g (l.drop 8)) := by
  refine (getFloat_c w lo g l h).mono ?_
  rintro e w' (⟨h1, rfl, h2, h3⟩ | ⟨h1, rfl, h2⟩)
  · exact ⟨true, _, rfl, h3, unle_tlt l 8, fun h => (by cases h), fun _ => ⟨h1, rfl, h2⟩⟩
  · exact ⟨false, 0, rfl, h2, by decide, fun _ => h1, fun h => by cases h⟩
theorem drop1 (b : UInt8) (r : List UInt8) (k : Nat) : (b :: r).drop (1 + k) = r.drop k := by rw [Nat.add_comm, List.drop_succ_cons]

set_option maxRecDepth 20000 in
set_option maxHeartbeats 8000000 in
theorem get_c (w : World) (lo g : Nat) (l : List UInt8) (h : Rd w lo g l) :
    Calls Tryz.prog 9 #[.pointer (some ⟨g, 0, none⟩)] w (GetP l w lo g) := by
  have hglt := h.lt
  have H1 := hid (show Rd (w.alloc (.cells #[.int .i64 0, .int .i64 0, .string ⟨#[]⟩, .int .u64 0] 26)) lo g l from rd_bel h (bel1 w _))
  cases l with
  | nil =>
    have HB := hid (byte_end _ lo g H1.out)
    clear H1 h
    go_enter Tryz.func9, Tryz.ntmps9
    go_wp2_with fail
    refine HB.out.mono ?_
    rintro e w2 ⟨rfl, -, hg2⟩
    have R2 := blk_gr (Blk.new w 26 #[.int .i64 0, .int .i64 0, .string ⟨#[]⟩, .int .u64 0]) hg2 (by omega)
    have G2 := (World.grownBy_alloc w _ (some g)).trans hg2
    obtain ⟨p0, p1, p2, p3, pf⟩ := Blk.v4 R2
    clear HB hg2 R2
    go_wp2
    refine bodyPost_ret (v := .tuple #[(.agg #[.int .i64 (0), .int .i64 (0), .string (str ([])), .int .u64 ((0 : Nat) : Int)]), .bool false]) (by simp [results, Tryz.results9, go_sem, p0, p1, p2, p3, strn]) rfl ?_
    exact ⟨gr_put4 G2 (Nat.le_refl _), .inr ⟨rfl, rfl⟩⟩
  | cons b r =>
    have HB := hid (byte_good _ lo g b r H1.out)
    have wb := kind_w b
    clear H1 h
    go_enter Tryz.func9, Tryz.ntmps9
    go_wp2_with fail
    refine HB.out.mono ?_
    rintro e w2 ⟨rfl, hr2, hg2⟩
    have R2 := blk_gr (Blk.new w 26 #[.int .i64 0, .int .i64 0, .string ⟨#[]⟩, .int .u64 0]) hg2 (by omega)
    have G2 := (World.grownBy_alloc w _ (some g)).trans hg2
    have hsz2 : w.heap.size < w2.heap.size := R2.lt
    obtain ⟨B, hB⟩ : ∃ B : Int, B = (b.toNat : Int) := ⟨_, rfl⟩
    rw [← hB] at wb ⊢
    have HBE := hid hB
    have R3 := hid (Blk.old R2 (.cells #[.int .i64 B, .int .i64 0, .string ⟨#[]⟩, .int .u64 0] 26))
    have V3 := hid (Blk.new w2 26 #[.int .i64 B, .int .i64 0, .string ⟨#[]⟩, .int .u64 0])
    have G3 := hid (gr_alloc G2 (.cells #[.int .i64 B, .int .i64 0, .string ⟨#[]⟩, .int .u64 0] 26))
    have D3 := hid (rd_bel hr2 (bel1 w2 (.cells #[.int .i64 B, .int .i64 0, .string ⟨#[]⟩, .int .u64 0] 26)))
    have HVG : Hid (w.heap.size < w2.heap.size ∧ g < w2.heap.size) := hid ⟨hsz2, by omega⟩
    have HGL := hid hglt
    clear HB hg2 R2 G2 hr2 hB hsz2 hglt
    go_upto_block 0 with fail
    generalize w2.alloc (.cells #[.int .i64 B, .int .i64 0, .string ⟨#[]⟩, .int .u64 0] 26) = w3 at *
    generalize w2.heap.size = vb at *
    go_cut [5, 7] (fun s5 _ wx => ∃ (ok : Bool) (x : Vl), s5 = .bool ok ∧ Hid (Blk wx w.heap.size 26 #[.int .i64 0, .int .i64 0, .string ⟨#[]⟩, .int .u64 0]) ∧ Hid (Blk wx vb 26 (cs4 x)) ∧ Hid (w.grownBy wx (some g)) ∧ Hid (GetR (b :: r) ok x wx lo g))
    case first =>
      by_cases b0 : b.toNat = 0
      · as_aux_lemma =>
        obtain rfl : B = 0 := by have := HBE.out; omega
        clear wb
        go_wp2_with fail
        go_meet
        case rel => exact ⟨true, vNull, rfl, R3, V3, G3, hid ⟨by decide, fun h => (by cases h), fun _ => ⟨fun h => (by cases h), fun _ => ⟨1, vg_0 b0, D3.out⟩⟩⟩⟩
      by_cases b1 : b.toNat = 1
      · as_aux_lemma =>
        obtain rfl : B = 1 := by have := HBE.out; omega
        have hc := num_any w3 lo g r D3.out
        clear wb
        go_wp2_with fail
        refine hc.mono ?_
        rintro e w4 ⟨ok, xv, rfl, hg4, hok⟩
        have R4 := hid (blk_gr R3.out hg4 (by have := HGL.out; omega))
        have V4 := hid (blk_gr V3.out hg4 (by have := HVG.out; omega))
        have G4 := hid (G3.out.trans hg4)
        have H4 := hid hok
        obtain ⟨x0, x1, x2, x3, xf⟩ := Blk.v4 V4.out
        clear hc hg4 hok R3 V3 G3 D3
        go_wp2_with fail
        go_meet
        case rel =>
          refine ⟨ok, (1, xv, [], 0), rfl, hid (R4.out.far (by have := HVG.out; omega) _ _), hid (V4.out.store 1 (.int .i64 xv)), hid (gr_put G4.out (by have := HVG.out; omega)), hid ⟨?_, ?_⟩⟩
          · show (0 : Nat) < _; decide
          · refine ⟨fun h => vg_1n b1 (H4.out.1 h), fun h => ⟨fun h => (by cases h), fun _ => ?_⟩⟩
            obtain ⟨h1, rfl, h3⟩ := H4.out.2 h
            exact ⟨_, vg_1s b1 h1, by rw [drop1]; exact rd_put h3 HVG.out.2⟩
      by_cases b2 : b.toNat = 2
      · as_aux_lemma =>
        obtain rfl : B = 2 := by have := HBE.out; omega
        have hc := byte_any w3 lo g r D3.out
        clear wb
        go_wp2_with fail
        refine hc.mono ?_
        rintro e w4 ⟨ok, cv, rfl, hg4, hok⟩
        have R4 := hid (blk_gr R3.out hg4 (by have := HGL.out; omega))
        have V4 := hid (blk_gr V3.out hg4 (by have := HVG.out; omega))
        have G4 := hid (G3.out.trans hg4)
        have H4 := hid hok
        have wc := kind_w cv
        obtain ⟨x0, x1, x2, x3, xf⟩ := Blk.v4 V4.out
        clear hc hg4 hok R3 V3 G3 D3
        go_wp2_with fail
        go_meet
        case rel =>
          refine ⟨ok, (2, (cv.toNat : Int), [], 0), rfl, hid (R4.out.far (by have := HVG.out; omega) _ _), hid (V4.out.store 1 (.int .i64 (cv.toNat : Int))), hid (gr_put G4.out (by have := HVG.out; omega)), hid ⟨?_, ?_⟩⟩
          · show (0 : Nat) < _; decide
          · refine ⟨fun h => by rw [H4.out.1 h]; exact vg_2n b2, fun h => ?_⟩
            obtain ⟨r', rfl, h3⟩ := H4.out.2 h
            refine ⟨fun hv => vg_2f b2 ?_, fun hv => ?_⟩
            · intro hc
              rcases (show cv.toNat = 0 ∨ cv.toNat = 1 by omega) with e | e <;> rw [vR2, e] at hv <;> cases hv
            · by_cases hc : cv.toNat ≤ 1
              · exact ⟨2, vg_2t b2 hc, rd_put h3 HVG.out.2⟩
              · rw [vR2] at hv; simp at hv; omega
      by_cases b3 : b.toNat = 3
      · as_aux_lemma =>
        obtain rfl : B = 3 := by have := HBE.out; omega
        have hc := txt_any w3 lo g r D3.out
        clear wb
        go_wp2_with fail
        refine hc.mono ?_
        rintro e w4 ⟨ok, xv, rfl, hg4, hok⟩
        have R4 := hid (blk_gr R3.out hg4 (by have := HGL.out; omega))
        have V4 := hid (blk_gr V3.out hg4 (by have := HVG.out; omega))
        have G4 := hid (G3.out.trans hg4)
        have H4 := hid hok
        obtain ⟨x0, x1, x2, x3, xf⟩ := Blk.v4 V4.out
        clear hc hg4 hok R3 V3 G3 D3
        go_wp2_with fail
        go_meet
        case rel =>
          refine ⟨ok, (3, 0, xv, 0), rfl, hid (R4.out.far (by have := HVG.out; omega) _ _), hid (V4.out.store 2 (.string (str xv))), hid (gr_put G4.out (by have := HVG.out; omega)), hid ⟨?_, ?_⟩⟩
          · show (0 : Nat) < _; decide
          · refine ⟨fun h => vg_3n b3 (by rcases H4.out.1 h with e | e; exact .inl e; exact .inr (.inr e)), fun h => ?_⟩
            obtain ⟨h1, h2, h3, h4⟩ := H4.out.2 h
            have hlen : xv.length = (rd r).1 := by rw [h3, List.length_take, List.length_drop]; omega
            refine ⟨fun hv => vg_3n b3 (.inr (.inl ?_)), fun hv => ?_⟩
            · rw [vR3, hlen] at hv; simp at hv; omega
            · have h64 : (rd r).1 ≤ 64 := by rw [vR3, hlen] at hv; simp at hv; omega
              exact ⟨_, by rw [h3]; exact vg_3s b3 (by omega), by rw [Nat.add_assoc, drop1, ← List.drop_drop]; exact rd_put h4 HVG.out.2⟩
      by_cases b4 : b.toNat = 4
      · as_aux_lemma =>
        obtain rfl : B = 4 := by have := HBE.out; omega
        have hc := flt_any w3 lo g r D3.out
        clear wb
        go_wp2_with fail
        refine hc.mono ?_
        rintro e w4 ⟨ok, uv, rfl, hg4, hul, hok⟩
        have R4 := hid (blk_gr R3.out hg4 (by have := HGL.out; omega))
        have V4 := hid (blk_gr V3.out hg4 (by have := HVG.out; omega))
        have G4 := hid (G3.out.trans hg4)
        have H4 := hid hok
        have HUL := hid hul
        clear hul
        obtain ⟨x0, x1, x2, x3, xf⟩ := Blk.v4 V4.out
        clear hc hg4 hok R3 V3 G3 D3
        go_wp2_with fail
        go_meet
        case rel =>
          refine ⟨ok, (4, 0, [], uv), rfl, hid (R4.out.far (by have := HVG.out; omega) _ _), hid (V4.out.store 3 (.int .u64 (uv : Int))), hid (gr_put G4.out (by have := HVG.out; omega)), hid ⟨?_, ?_⟩⟩
          · exact HUL.out
          · refine ⟨fun h => vg_4n b4 (H4.out.1 h), fun h => ?_⟩
            obtain ⟨h1, h2, h3⟩ := H4.out.2 h
            refine ⟨fun hv => vg_4f b4 h1 ?_, fun hv => ?_⟩
            · intro hc
              rw [← h2] at hc
              rw [vR4, hc] at hv
              simp at hv
            · rw [vR4] at hv
              simp at hv
              refine ⟨9, by rw [h2]; exact vg_4t b4 h1 (by rw [← h2]; simpa using hv), ?_⟩
              show Rd _ lo g ((b :: r).drop (8 + 1))
              rw [List.drop_succ_cons]
              exact rd_put h3 HVG.out.2
      · as_aux_lemma =>
        have k1 : (B == 1) = false := by have := HBE.out; simp; omega
        have k2 : (B == 2) = false := by have := HBE.out; simp; omega
        have k3 : (B == 3) = false := by have := HBE.out; simp; omega
        have k4 : (B == 4) = false := by have := HBE.out; simp; omega
        clear wb
        go_wp2_with fail
        go_meet
        case rel =>
          have hB := HBE.out
          exact ⟨true, (B, 0, [], 0), rfl, R3, V3, G3, hid ⟨by show (0 : Nat) < _; decide, fun h => (by cases h), fun _ => ⟨fun _ => vg_x (by omega), fun h => by rw [vRx _ _ _ _ (by omega) (by omega) (by omega) (by omega) (by omega)] at h; cases h⟩⟩⟩
    case rest =>
      obtain ⟨ok, x, rfl, hR, hV, hG, hX⟩ := hcut
      clear R3 V3 G3 D3
      cases ok with
      | false =>
        have HX := hid (hX.out.2.1 rfl)
        obtain ⟨p0, p1, p2, p3, pf⟩ := Blk.v4 hR.out
        have HG := hG
        clear hV hX hR wb
        as_aux_lemma =>
        go_wp2
        refine bodyPost_ret (v := .tuple #[(.agg #[.int .i64 (0), .int .i64 (0), .string (str ([])), .int .u64 ((0 : Nat) : Int)]), .bool false]) (by simp [results, Tryz.results9, go_sem, p0, p1, p2, p3, strn]) rfl ?_
        exact ⟨gr_put4 HG.out (Nat.le_refl _), .inr ⟨HX.out, rfl⟩⟩
      | true =>
        obtain ⟨y0, y1, y2, y3, yf⟩ := Blk.v4 (show Blk wc vb 26 #[.int .i64 (vk x), .int .i64 (vn x), .string (str (vs x)), .int .u64 ((vf x : Nat) : Int)] from hV.out)
        have HC := hid (right_c x hX.out.1 wc)
        have HX := hid (hX.out.2.2 rfl)
        clear hX wb
        as_aux_lemma =>
        go_wp2_with fail
        refine HC.out.mono ?_
        rintro e w5 ⟨rfl, hb5⟩
        have R5 := hR.out.bel hb5 hR.out.lt
        have V5 := hV.out.bel hb5 hV.out.lt
        have HG5 := hid (gr_bel hG.out hb5)
        have HB5 := hid hb5
        obtain ⟨p0, p1, p2, p3, pf⟩ := Blk.v4 R5
        obtain ⟨q0, q1, q2, q3, qf⟩ := Blk.v4 (show Blk w5 vb 26 #[.int .i64 (vk x), .int .i64 (vn x), .string (str (vs x)), .int .u64 ((vf x : Nat) : Int)] from V5)
        clear hR hV hG hb5 HC y0 y1 y2 y3 yf R5 V5
        rcases hv : vRight x with _ | _
        · have HN := hid (HX.out.1 hv)
          clear HX hv
          go_wp2
          refine bodyPost_ret (v := .tuple #[(.agg #[.int .i64 (0), .int .i64 (0), .string (str ([])), .int .u64 ((0 : Nat) : Int)]), .bool false]) (by simp [results, Tryz.results9, go_sem, p0, p1, p2, p3, strn]) rfl ?_
          exact ⟨gr_put4 HG5.out (Nat.le_refl _), .inr ⟨HN.out, rfl⟩⟩
        · obtain ⟨k, hk1, hk2⟩ := HX.out.2 hv
          have HK1 := hid hk1
          have HK2 := hid (rd_bel hk2 HB5.out)
          clear HX hv hk1 hk2
          generalize hxk : vk x = xk at *
          generalize hxn : vn x = xn at *
          generalize hxs : str (vs x) = xs at *
          generalize hxf : ((vf x : Nat) : Int) = xf at *
          have HXK := hid hxk
          have HXN := hid hxn
          have HXS := hid hxs
          have HXF := hid hxf
          clear hxk hxn hxs hxf
          go_wp2
          refine bodyPost_ret (v := .tuple #[.agg #[.int .i64 xk, .int .i64 xn, .string xs, .int .u64 xf], .bool true]) (by simp [results, Tryz.results9, go_sem, p0, p1, p2, p3]) rfl ?_
          exact ⟨gr_put4 HG5.out (Nat.le_refl _), .inl ⟨x, k, HK1.out, by rw [HXK.out, HXN.out, HXS.out, HXF.out], rd_put4 HK2.out HGL.out _ _ _ _⟩⟩
end Go.Proofs.YtfjpnkchldjjmaaGreatDoor
