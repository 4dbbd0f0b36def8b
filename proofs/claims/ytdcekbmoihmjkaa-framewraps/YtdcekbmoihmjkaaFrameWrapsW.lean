/-
  The walk of the law FrameWraps.
-/
import Derived.Test.YtdcekbmoihmjkaaFrmLaw
namespace Go.Proofs.Ytdcekbmoihmjkaa
set_option maxRecDepth 20000
open Go.RowKit

set_option maxRecDepth 100000 in
set_option maxHeartbeats 8000000 in
theorem frameWraps_any (v : Value) (l : List Int) (hb : ∀ a ∈ l, 0 ≤ a ∧ a < 256) (w : World) (hl : KLies KB v l w) (hsz : l.length ≤ 140737488355328) :
    Calls Try.prog 3 #[v] w fun e w' => e = .returned (.bool true) ∧ Below w.heap.size w w' := by
  obtain ⟨p, c, rfl⟩ := hl.form
  have HL := Lib.hid hl
  have HBY := Lib.hid (show ByL l from hb)
  have HLE := Lib.hid (show (([] : List Int).length + l.length) * KB.room ≤ 140737488355328 by show (0 + l.length) * 1 ≤ _; omega)
  clear hl hb hsz
  obtain ⟨n, hn⟩ : ∃ n, n = l.length := ⟨_, rfl⟩
  rw [← hn] at HL ⊢
  have HN := Lib.hid hn
  clear hn
  have HL1 := Lib.hid (show KLies KB (.slice p n c) l (w.alloc (.cells #[] KB.T)) from HL.out.below okB (below1 _ _))
  go_enter Try.func3, Try.ntmps3
  go_wp2_with (first
    | (refine kbuildNone KB okB rfl rfl ?_)
    | (refine kappendB KB okB rfl _ _ rfl w.heap.size _ [] l rfl (KOwns.built w _ (Nat.le_refl _)) _ rfl HL1.out (by simp) HLE.out (fun v1 W1 ho hg => ?_); simp only [Act.put, List.setIfInBounds_toArray, List.set_cons_zero, List.set_cons_succ]; refine Hid.out ?_))
  have HO1 := Lib.hid (show KOwns KB w.heap.size v1 l W1 from ho)
  have HB1 := Lib.hid (kbelowOwn (below1 w (.cells #[] KB.T)) (KOwns.built (K := KB) w w.heap.size (Nat.le_refl _)) (Nat.le_refl _) hg)
  clear ho hg HL1
  have HC1 := Lib.hid (fwrap_any v1 l W1 (HO1.out.lies okB))
  refine Lib.hid ?_
  go_wp2_with (go_at_call 7; refine HC1.out.mono ?_; rintro e W2 ⟨x, rfl, hx, hb⟩; refine Hid.out ?_)
  have HX := Lib.hid hx
  have HB2 := Lib.hid (HB1.out.trans (hb.mono HB1.out.size))
  have HS2 := Lib.hid HB1.out.size
  clear hx hb HC1 HO1 HB1 HLE
  by_cases hL : 65536 < n
  · have hLI : (65536 : Int) < (n : Int) := by omega
    obtain ⟨e1, e2⟩ := wrap_no (l := l) (by rw [← HN.out]; exact hL)
    rw [e2] at HX
    rw [e1]
    obtain ⟨px, cx, rfl⟩ := HX.out.form
    have HA := Lib.hid (answers10 W2)
    clear hL e1 e2
    refine Lib.hid ?_
    go_wp2_with (go_at_call 8; refine HA.out.mono ?_; rintro e W3 ⟨rfl, hb⟩)
    go_ret
    exact ⟨rfl, HB2.out.trans (hb.mono HB2.out.size)⟩
  have hLI : ¬ (65536 : Int) < (n : Int) := by omega
  have HL2 := Lib.hid (show l.length ≤ 65536 by rw [← HN.out]; omega)
  obtain ⟨e1, e2⟩ := wrap_ok HL2.out
  rw [e2] at HX
  rw [e1]
  clear e1 e2 hL
  obtain ⟨px, cx, rfl⟩ := HX.out.form
  obtain ⟨A, hA⟩ : ∃ A, A = #[Value.int .u8 0, .int .u8 ((n : Int) / 65536), .int .u8 ((n : Int) / 256 % 256), .int .u8 ((n : Int) % 256)] := ⟨_, rfl⟩
  have HA4 := Lib.hid (show A.toList = KB.flat (numB 4 (n : Int)) by rw [hA, numB4, show (n : Int) / 16777216 % 256 = 0 by omega, show (n : Int) / 65536 % 256 = (n : Int) / 65536 by omega]; rfl)
  have HO3 := Lib.hid (show KOwns KB W2.heap.size (.slice (some ⟨W2.heap.size, 0, none⟩) 4 4) (numB 4 (n : Int)) (W2.alloc (.cells A KB.T)) from by
    have h := Blk.kowns (K := KB) (l := numB 4 (n : Int)) (Blk.new W2 A KB.T) okB HA4.out (by rw [numB_len]; unfold maxLen; decide)
    rwa [numB_len] at h)
  have HL3 := Lib.hid (show KLies KB (.slice p n c) l (W2.alloc (.cells A KB.T)) from (HL.out.below okB HB2.out).below okB (below1 _ _))
  rw [hA] at HO3 HL3
  have HAe := Lib.hid hA
  clear hA HA4
  refine Lib.hid ?_
  go_upto_region 4 with fail
  go_wp2_with (refine kappendB KB okB rfl _ _ rfl W2.heap.size _ (numB 4 (n : Int)) l rfl HO3.out _ rfl HL3.out (by simp) (by rw [numB_len]; have := HL2.out; show (4 + l.length) * 1 ≤ _; omega) (fun v3 W3 ho hg => ?_); refine Hid.out ?_)
  have HO4 := Lib.hid (show KOwns KB W2.heap.size v3 (frm l) W3 by unfold frm; rw [← HN.out]; exact ho)
  have HB4 := Lib.hid (show Below W2.heap.size W2 W3 from kbelowOwn (below1 W2 _) HO3.out (Nat.le_refl _) hg)
  have HX4 := Lib.hid ((HX.out.lies okB).below okB HB4.out)
  have HB3 := Lib.hid (HB2.out.trans (HB4.out.mono HB2.out.size))
  clear ho hg HO3 HL3 HX HS2 HB2 HAe
  have HW4 := Lib.hid (HO4.out.lies okB)
  clear HO4 HB4
  generalize (frm l).length = m at *
  have HC3 := Lib.hid (fnew_any W3)
  refine Lib.hid ?_
  go_wp2_with (go_at_call 9; refine HC3.out.mono ?_; rintro e W4 ⟨rfl, hr, hb⟩; refine Hid.out ?_)
  obtain ⟨b, hbb⟩ : ∃ b, b = W3.heap.size := ⟨_, rfl⟩
  rw [← hbb] at hr
  rw [← hbb]
  have HBB := Lib.hid (Nat.le_of_eq hbb.symm)
  have HR4 := Lib.hid hr
  have HK4 := Lib.hid hb
  have HC4 := Lib.hid (ffeed_any b (.slice none 0 0) [] false (.slice px m cx) (frm l) (by rw [frm_len]; have := HL2.out; simp; omega) W4 hr (HX4.out.below okB hb))
  rw [List.nil_append] at HC4
  clear hbb hr hb HC3
  refine Lib.hid ?_
  go_wp2_with (go_at_call 10; refine HC4.out.mono ?_; rintro e W5 ⟨rfl, v5, hr, hf⟩; refine Hid.out ?_)
  have HR5 := Lib.hid hr
  have HK5 := Lib.hid (hf.old HK4.out HBB.out)
  clear hr hf HC4 HR4 HK4
  have HC5 := Lib.hid (fnext_any b v5 (frm l) false (by rw [frm_len]; have := HL2.out; omega) (frm_byte HBY.out) W5 HR5.out)
  have e5 := nxt_frm HL2.out []
  rw [List.append_nil] at e5
  rw [e5] at HC5
  clear e5
  refine Lib.hid ?_
  go_wp2_with (go_at_call 11; refine HC5.out.mono ?_; rintro e W6 ⟨y, v6, rfl, hy, hyv, hr, hf⟩; refine Hid.out ?_)
  have HR6 := Lib.hid (show RdA b v6 [] false W6 from hr)
  have HK6 := Lib.hid (hf.old HK5.out HBB.out)
  have HY6 := Lib.hid (show KOwns KB W5.heap.size y l W6 from hy)
  have HA6 := Lib.hid (show Apart b v6 y from fun g hg => ⟨by have := (hy.lt g hg).1; have := HR5.out.lt; omega, hyv g hg⟩)
  clear hr hf hy hyv HC5 HR5 HK5
  have HC6 := Lib.hid (fnext_any b v6 [] false (by decide) (fun x hx => (by cases hx)) W6 HR6.out)
  rw [nxt_nil] at HC6
  refine Lib.hid ?_
  go_wp2_with (go_at_call 11; refine HC6.out.mono ?_; rintro e W7 ⟨z, v7, rfl, _, _, hr, hf⟩; refine Hid.out ?_)
  have HR7 := Lib.hid (show RdA b v7 [] false W7 from hr)
  have HK7 := Lib.hid (hf.old HK6.out HBB.out)
  have HY7 := Lib.hid ((hf.owns HY6.out HA6.out).lies okB)
  clear hr hf HC6 HR6 HK6 HY6 HA6
  have HA7 := Lib.hid (answers10 W7)
  refine Lib.hid ?_
  go_wp2_with (go_at_call 8; refine HA7.out.mono ?_; rintro e W8 ⟨rfl, hb⟩; refine Hid.out ?_)
  have HK8 := Lib.hid (HK7.out.trans (hb.mono HK7.out.size))
  have HY8 := Lib.hid (HY7.out.below okB hb)
  have HR8 := Lib.hid (HR7.out.below hb)
  clear hb HA7 HR7 HK7 HY7
  have HC8 := Lib.hid (rsame_at (.slice px m cx) v3 (frm l) (by rw [frm_len]; have := HL2.out; omega) W8 (HX4.out.below okB HK8.out) (HW4.out.below okB HK8.out))
  refine Lib.hid ?_
  go_wp2_with (go_at_call 12; refine HC8.out.mono ?_; rintro e W9 ⟨rfl, hb⟩; refine Hid.out ?_)
  have HK9 := Lib.hid (HK8.out.trans (hb.mono HK8.out.size))
  have HY9 := Lib.hid (HY8.out.below okB hb)
  have HR9 := Lib.hid (HR8.out.below hb)
  clear hb HC8 HR8 HK8 HY8
  have HB9 := Lib.hid (HB3.out.trans (HK9.out.mono HB3.out.size))
  have HC9 := Lib.hid (rsame_at y (.slice p n c) l (by have := HL2.out; omega) W9 HY9.out (HL.out.below okB HB9.out))
  refine Lib.hid ?_
  go_wp2_with (go_at_call 12; refine HC9.out.mono ?_; rintro e W10 ⟨rfl, hb⟩; refine Hid.out ?_)
  have HB10 := Lib.hid (HB9.out.trans (hb.mono HB9.out.size))
  have HC10 := Lib.hid (fleft_any b v7 [] false (by decide) W10 (HR9.out.below hb))
  clear hb HC9 HR9 HK9 HY9
  refine Lib.hid ?_
  go_wp2_with (go_at_call 13; refine HC10.out.mono ?_; rintro e W11 ⟨rfl, hb⟩)
  go_ret
  exact ⟨rfl, HB10.out.trans (hb.mono HB10.out.size)⟩
end Go.Proofs.Ytdcekbmoihmjkaa
