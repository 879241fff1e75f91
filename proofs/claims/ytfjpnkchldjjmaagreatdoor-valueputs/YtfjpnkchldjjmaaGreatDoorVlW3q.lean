/- What the document's own right returns. -/
import Derived.Test.YtfjpnkchldjjmaaGreatDoorVlW3
namespace Go.Proofs.YtfjpnkchldjjmaaGreatDoor
open Go.RowKit

set_option maxHeartbeats 1000000 in
theorem rright_c (v : Vl) (hf : vf v < 18446744073709551616) (w : World) :
    Calls Tryz.prog 24 #[(.agg #[.int .i64 (vk v), .int .i64 (vn v), .string (str (vs v)), .int .u64 ((vf v : Nat) : Int)])] w fun e w' => e = .returned (.agg #[.int .i64 (vk (vRt v)), .int .i64 (vn (vRt v)), .string (str (vs (vRt v))), .int .u64 ((vf (vRt v) : Nat) : Int)]) ∧ Below w.heap.size w w' := by
  have HR := hid (fun wx => rRight_c v hf wx)
  have HY : Hid (vRight v = true → vRt v = v) := hid vRt_of
  have HN : Hid (vRight v = false → vRt v = vNull) := hid vRt_no
  generalize vRight v = b at *
  obtain ⟨r, hr⟩ : ∃ r, r = vRt v := ⟨_, rfl⟩
  rw [← hr]
  have HE := hid hr
  clear hr hf
  go_enter Tryz.func24, Tryz.ntmps24
  go_wp2_with fail
  refine (HR.out _).mono ?_
  rintro e w2 ⟨rfl, hb2⟩
  obtain ⟨p0, p1, p2, p3, -⟩ := (((Blk.new w 26 _).old _).bel hb2 (by simp; omega)).v4
  obtain ⟨q0, q1, q2, q3, qf⟩ := ((Blk.new (w.alloc _) 26 _).bel hb2 (by simp)).v4
  have hb3 := (bel2 w _ _).trans (hb2.mono (by simp; omega))
  simp only [sz1] at q0 q1 q2 q3 qf
  clear hb2
  cases b
  · have hr : r = vNull := HE.out.trans (HN.out rfl)
    subst hr
    clear HE HN HY HR
    go_wp2
    refine bodyPost_ret (v := (.agg #[.int .i64 (0), .int .i64 (0), .string (str ([])), .int .u64 ((0 : Nat) : Int)])) (by simp [results, Tryz.results24, go_sem, q0, q1, q2, q3, str]) rfl ⟨rfl, bel4 hb3 (by omega) _ _ _ _⟩
  · have hr : r = v := HE.out.trans (HY.out rfl)
    subst hr
    clear HE HN HY HR
    go_wp2
    refine bodyPost_ret (v := (.agg #[.int .i64 (vk r), .int .i64 (vn r), .string (str (vs r)), .int .u64 ((vf r : Nat) : Int)])) (by simp [results, Tryz.results24, go_sem, q0, q1, q2, q3]) rfl ⟨rfl, bel4 hb3 (by omega) _ _ _ _⟩

end Go.Proofs.YtfjpnkchldjjmaaGreatDoor
