/-
  The walk of add of package mods.
-/
import Derived.Test.YtghfohglnbenaaaDoorModAdd
namespace Go.Proofs.YtghfohglnbenaaaDoor
set_option maxRecDepth 20000
open Go.RowKit

set_option maxHeartbeats 4000000 in
theorem add_any (v : Value) (l : List Rm) (hlen : l.length ≤ 50000) (hwl : WfRL l) (m : Mm) (hw : WfM m.u) (hk : m.u.kind = 1) (hs : sndM m.u = true) (htab : tabU (l.map (·.u)) = true) (room : Int) (w : World) (hl : RLies v l w) (ha : InM m w) (ht : Tab w) (hz : 0 < w.heap.size) :
    Calls Tryd.prog 27 #[v, .agg (mca m), .int .i64 room] w (ApRet w (l.map (·.u)) m.u room) := by
  obtain ⟨p, cap, rfl⟩ := hl.1.form
  have R0 := Lib.hid (Blk.new w (mca m) 30)
  have HE := Lib.hid ((Env.start ht hz).alloc (.cells (mca m) 30))
  have HN := Lib.hid (ruleof_any m (w.alloc (.cells (mca m) 30)))
  have HAE := Lib.hid (addE (room := room) hk htab hs)
  have HL := Lib.hid hl
  have HA := Lib.hid ha
  have HWL := Lib.hid hwl
  have HW := Lib.hid hw
  have HTB := Lib.hid htab
  have HK1 := Lib.hid hk
  obtain ⟨us, hus⟩ : ∃ us, us = l.map (·.u) := ⟨_, rfl⟩
  rw [← hus]
  rw [← hus] at HAE
  have HUS := Lib.hid hus
  have HUL := Lib.hid (show us.length = l.length by rw [hus]; simp)
  clear hl ha hwl hw ht hs htab hk hus
  go_enter Tryd.func27, Tryd.ntmps27
  go_upto_region 2 with (first
    | (refine wpList_load_row rfl 30 _ rfl w.heap.size rfl 30 (mca m) (0, 0) _ R0.out Tryd.underlying30 rfl infoM ?_)
    | (go_at_call 37; refine HN.out.mono ?_; rintro e w1 ⟨rfl, hw1⟩)
    | (refine wpList_store_row rfl 44 _ _ rfl w1.heap.size (rca (newR m)) rfl rfl 44 _ (heap_alloc_new _ _) (by kernel_rfl) rfl (rca_one _) ?_; rw [World.setRow_alloc_new]))
  have HE1 := Lib.hid ((HE.out.below hw1).alloc (.cells (rca (newR m)) 44))
  have HS := Lib.hid (show AddS w (.slice p l.length cap) l m w1.heap.size (w1.alloc (.cells (rca (newR m)) 44)) from
    ⟨HL.out.below HE1.out.kept, HA.out.below HE1.out.kept, (R0.out.below hw1).old _, Blk.new _ _ _, HE1.out⟩)
  clear hw1 HE R0 HN HE1
  generalize w1.alloc (.cells (rca (newR m)) 44) = W2 at *
  generalize w1.heap.size = Bn at *
  have HI := Lib.hid (rindex_any 50 #[.pointer (some ⟨Bn, 0, none⟩)] (qKey (newU m.u)) en50 p cap l (by omega) HWL.out W2 HS.out.1.1 (pred50 HS.out.2.2.2.1))
  rcases kidx_cases (qKey (newU m.u)) l with ⟨e0, h0⟩ | ⟨i, x, e0, hx, h1, h2⟩
  · rw [e0] at HI
    obtain ⟨a7, a1⟩ := any7_no h0
    rw [← HUS.out] at a7 a1
    have A7 := Lib.hid a7
    have A1 := Lib.hid a1
    clear e0 h0 a7 a1
    go_upto_region 3 with (go_at_call 49; refine HI.out.mono ?_; rintro e w3 ⟨rfl, hw3⟩)
    have HS3 := Lib.hid (AddS.below hw3 HS.out)
    clear hw3 HI HS
    go_quiet (fail)
    have HS4 := Lib.hid (AddS.below (belowDrewN w3 nq) HS3.out)
    clear HS3
    generalize w3.drewN nq = W4 at *
    have kC := HS4.out.2.2.1.cellsM.2.2.2.2.2.2.2
    cases hch : m.u.chk
    · rw [hch] at kC
      have HCH := Lib.hid hch
      by_cases hro : room ≤ (l.length : Int)
      · have hrd : decide (room ≤ (us.length : Int)) = true := decide_eq_true (by have := HUL.out; omega)
        have HR := Lib.hid (show applyE us m.u room = 3 by rw [HAE.out, A7.out, A1.out, hrd]; simp [HCH.out])
        have HB5 := Lib.hid HS4.out.2.2.2.2.kept
        clear HS4
        go_wp2_with fail
        go_ret2
        exact ApRet.no HR.out (by decide) HB5.out
      have hrd : decide (room ≤ (us.length : Int)) = false := decide_eq_false (by have := HUL.out; omega)
      have HR := Lib.hid (show applyE us m.u room = 0 by rw [HAE.out, A7.out, A1.out, hrd]; simp [HCH.out])
      have RR := Lib.hid HS4.out.2.2.2.1
      go_wp2_with (first
        | (refine wpList_load_row rfl 44 _ rfl Bn rfl 44 (rca (newR m)) (0, 0) _ RR.out Tryd.underlying44 rfl infoR ?_)
        | (refine kbuildOne KR okR #[Value.int IntKind.u64 0, Value.int IntKind.u64 0, Value.int IntKind.u64 0, Value.int IntKind.u64 0, Value.int IntKind.u64 0, Value.int IntKind.u64 0, Value.int IntKind.u64 0, Value.int IntKind.u64 0, Value.int IntKind.u64 0, Value.int IntKind.u64 0, Value.int IntKind.u64 0, Value.int IntKind.u64 0, Value.int IntKind.u64 0, Value.int IntKind.u64 0, Value.int IntKind.u64 0, Value.int IntKind.u64 0, Value.int IntKind.u64 0, Value.int IntKind.u64 0, Value.int IntKind.u64 0, Value.int IntKind.u64 0, Value.int IntKind.u64 0, Value.int IntKind.u64 0, Value.int IntKind.u64 0, Value.int IntKind.u64 0, Value.int IntKind.i64 0, Value.slice none 0 0, Value.int IntKind.i64 0, Value.int IntKind.i64 0, Value.int IntKind.i64 0, Value.int IntKind.i64 0, Value.int IntKind.i64 0, Value.int IntKind.i64 0] zeroR rfl (.tmp 43) rfl (rca (newR m)) rfl (by decide) (fillOne (newR m)) ?_; refine Hid.out ?_))
      have RA := Lib.hid (Blk.new W4 (rca (newR m)) KR.T)
      have HS8 := Lib.hid (AddS.below (below1 _ (.cells (rca (newR m)) KR.T)) HS4.out)
      clear RR HS4
      generalize W4.alloc (.cells (rca (newR m)) KR.T) = Wa at *
      generalize W4.heap.size = b1 at *
      refine Lib.hid ?_
      go_wp2_with (refine kbuildV2 rfl (.tmp 42) (.tmp 44) rfl p l.length cap (some ⟨b1, 0, none⟩) 1 1 rfl rfl ?_; refine Hid.out ?_)
      have HS9 := Lib.hid (AddS.below (below1 _ (.cells #[.slice p l.length cap, .slice (some ⟨b1, 0, none⟩) 1 1] KV.T)) HS8.out)
      have HK2 := Lib.hid (show KLies KR (.slice (some ⟨b1, 0, none⟩) 1 1) [newR m] (Wa.alloc (.cells #[.slice p l.length cap, .slice (some ⟨b1, 0, none⟩) 1 1] KV.T)) from Blk.klies (l := [newR m]) (RA.out.old _) okR rfl)
      have HBV := Lib.hid (Blk.new Wa #[.slice p l.length cap, .slice (some ⟨b1, 0, none⟩) 1 1] KV.T)
      clear RA HS8
      generalize Wa.alloc (.cells #[.slice p l.length cap, .slice (some ⟨b1, 0, none⟩) 1 1] KV.T) = Wb at *
      generalize Wa.heap.size = b2 at *
      have HCC := Lib.hid (concat_any b2 (.slice p l.length cap) (.slice (some ⟨b1, 0, none⟩) 1 1) l [newR m] (by simp) (by simp; omega) Wb HBV.out HS9.out.1.1 HK2.out)
      clear HBV HK2
      refine Lib.hid ?_
      go_wp2_with (go_at_call 56; refine HCC.out.mono ?_; rintro e w5 ⟨cv, rfl, hoC, hw5⟩; refine Hid.out ?_)
      have HS5 := Lib.hid (AddS.below hw5 HS9.out)
      have HRL := Lib.hid (show RLies cv (l ++ [newR m]) w5 from ⟨hoC.lies okR, fun r hr => by
        rcases List.mem_append.1 hr with hr | hr
        · exact HS5.out.1.2 r hr
        · simp only [List.mem_cons, List.not_mem_nil, or_false] at hr
          rw [hr]
          exact HS5.out.2.1.new⟩)
      have HSo := Lib.hid (rsort_any cv (l ++ [newR m]) (by simp; omega) (fun r hr => by
        rcases List.mem_append.1 hr with hr | hr
        · exact HWL.out r hr
        · simp only [List.mem_cons, List.not_mem_nil, or_false] at hr
          rw [hr]
          exact HW.out.new) w5 HRL.out HS5.out.2.2.2.2.tab HS5.out.2.2.2.2.lt)
      clear hoC hw5 HCC HS9 HRL
      refine Lib.hid ?_
      go_wp2_with (go_at_call 55; refine HSo.out.mono ?_; rintro e w6 ⟨g, L, rfl, hu, hc⟩)
      go_ret2
      have hE5 := HS5.out.2.2.2.2.kept
      exact ApRet.tab HR.out (by rw [hu]; unfold applyL; rw [if_pos HK1.out, HUS.out, List.map_append]; rfl) ⟨hc.1, hc.2.1, hE5.trans (hc.2.2.1.mono hE5.size), Nat.le_trans hE5.size hc.2.2.2⟩
    · rw [hch] at kC
      have HCH := Lib.hid hch
      have HCo := Lib.hid (rcontains_any 53 #[.pointer (some ⟨Bn, 0, none⟩)] (qOv (newU m.u)) en53 (.slice p l.length cap) l (by omega) HWL.out W4 HS4.out.1.1 (pred53 (n := newR m) HW.out.new.m HS4.out.2.2.2.1 HS4.out.2.2.2.2.tab HS4.out.2.2.2.2.lt))
      have hany := any6 l m.u
      rw [← HUS.out] at hany
      cases ha6 : l.any (qOv (newU m.u))
      · rw [ha6] at HCo hany
        have HAN := Lib.hid hany
        clear hany
        go_upto_region 7 with (go_at_call 52; refine HCo.out.mono ?_; rintro e w5 ⟨rfl, hw5⟩)
        have HS5a := Lib.hid (AddS.below hw5 HS4.out)
        clear hw5 HCo HS4 kC
        generalize w5 = W5 at *
        by_cases hro : room ≤ (l.length : Int)
        · have hrd : decide (room ≤ (us.length : Int)) = true := decide_eq_true (by have := HUL.out; omega)
          have HR := Lib.hid (show applyE us m.u room = 3 by rw [HAE.out, A7.out, A1.out, hrd]; simp [HCH.out, HAN.out])
          have HB5 := Lib.hid HS5a.out.2.2.2.2.kept
          clear HS5a
          go_wp2_with fail
          go_ret2
          exact ApRet.no HR.out (by decide) HB5.out
        have hrd : decide (room ≤ (us.length : Int)) = false := decide_eq_false (by have := HUL.out; omega)
        have HR := Lib.hid (show applyE us m.u room = 0 by rw [HAE.out, A7.out, A1.out, hrd]; simp [HCH.out, HAN.out])
        have RR := Lib.hid HS5a.out.2.2.2.1
        go_wp2_with (first
          | (refine wpList_load_row rfl 44 _ rfl Bn rfl 44 (rca (newR m)) (0, 0) _ RR.out Tryd.underlying44 rfl infoR ?_)
          | (refine kbuildOne KR okR #[Value.int IntKind.u64 0, Value.int IntKind.u64 0, Value.int IntKind.u64 0, Value.int IntKind.u64 0, Value.int IntKind.u64 0, Value.int IntKind.u64 0, Value.int IntKind.u64 0, Value.int IntKind.u64 0, Value.int IntKind.u64 0, Value.int IntKind.u64 0, Value.int IntKind.u64 0, Value.int IntKind.u64 0, Value.int IntKind.u64 0, Value.int IntKind.u64 0, Value.int IntKind.u64 0, Value.int IntKind.u64 0, Value.int IntKind.u64 0, Value.int IntKind.u64 0, Value.int IntKind.u64 0, Value.int IntKind.u64 0, Value.int IntKind.u64 0, Value.int IntKind.u64 0, Value.int IntKind.u64 0, Value.int IntKind.u64 0, Value.int IntKind.i64 0, Value.slice none 0 0, Value.int IntKind.i64 0, Value.int IntKind.i64 0, Value.int IntKind.i64 0, Value.int IntKind.i64 0, Value.int IntKind.i64 0, Value.int IntKind.i64 0] zeroR rfl (.tmp 43) rfl (rca (newR m)) rfl (by decide) (fillOne (newR m)) ?_; refine Hid.out ?_))
        have RA := Lib.hid (Blk.new W5 (rca (newR m)) KR.T)
        have HS8 := Lib.hid (AddS.below (below1 _ (.cells (rca (newR m)) KR.T)) HS5a.out)
        clear RR HS5a
        generalize W5.alloc (.cells (rca (newR m)) KR.T) = Wa at *
        generalize W5.heap.size = b1 at *
        refine Lib.hid ?_
        go_wp2_with (refine kbuildV2 rfl (.tmp 42) (.tmp 44) rfl p l.length cap (some ⟨b1, 0, none⟩) 1 1 rfl rfl ?_; refine Hid.out ?_)
        have HS9 := Lib.hid (AddS.below (below1 _ (.cells #[.slice p l.length cap, .slice (some ⟨b1, 0, none⟩) 1 1] KV.T)) HS8.out)
        have HK2 := Lib.hid (show KLies KR (.slice (some ⟨b1, 0, none⟩) 1 1) [newR m] (Wa.alloc (.cells #[.slice p l.length cap, .slice (some ⟨b1, 0, none⟩) 1 1] KV.T)) from Blk.klies (l := [newR m]) (RA.out.old _) okR rfl)
        have HBV := Lib.hid (Blk.new Wa #[.slice p l.length cap, .slice (some ⟨b1, 0, none⟩) 1 1] KV.T)
        clear RA HS8
        generalize Wa.alloc (.cells #[.slice p l.length cap, .slice (some ⟨b1, 0, none⟩) 1 1] KV.T) = Wb at *
        generalize Wa.heap.size = b2 at *
        have HCC := Lib.hid (concat_any b2 (.slice p l.length cap) (.slice (some ⟨b1, 0, none⟩) 1 1) l [newR m] (by simp) (by simp; omega) Wb HBV.out HS9.out.1.1 HK2.out)
        clear HBV HK2
        refine Lib.hid ?_
        go_wp2_with (go_at_call 56; refine HCC.out.mono ?_; rintro e w5 ⟨cv, rfl, hoC, hw5⟩; refine Hid.out ?_)
        have HS5 := Lib.hid (AddS.below hw5 HS9.out)
        have HRL := Lib.hid (show RLies cv (l ++ [newR m]) w5 from ⟨hoC.lies okR, fun r hr => by
          rcases List.mem_append.1 hr with hr | hr
          · exact HS5.out.1.2 r hr
          · simp only [List.mem_cons, List.not_mem_nil, or_false] at hr
            rw [hr]
            exact HS5.out.2.1.new⟩)
        have HSo := Lib.hid (rsort_any cv (l ++ [newR m]) (by simp; omega) (fun r hr => by
          rcases List.mem_append.1 hr with hr | hr
          · exact HWL.out r hr
          · simp only [List.mem_cons, List.not_mem_nil, or_false] at hr
            rw [hr]
            exact HW.out.new) w5 HRL.out HS5.out.2.2.2.2.tab HS5.out.2.2.2.2.lt)
        clear hoC hw5 HCC HS9 HRL
        refine Lib.hid ?_
        go_wp2_with (go_at_call 55; refine HSo.out.mono ?_; rintro e w6 ⟨g, L, rfl, hu, hc⟩)
        go_ret2
        have hE5 := HS5.out.2.2.2.2.kept
        exact ApRet.tab HR.out (by rw [hu]; unfold applyL; rw [if_pos HK1.out, HUS.out, List.map_append]; rfl) ⟨hc.1, hc.2.1, hE5.trans (hc.2.2.1.mono hE5.size), Nat.le_trans hE5.size hc.2.2.2⟩
      · rw [ha6] at HCo hany
        have HR := Lib.hid (show applyE us m.u room = 6 by rw [HAE.out, A7.out, hch, hany]; rfl)
        clear hany
        go_wp2_with (go_at_call 52; refine HCo.out.mono ?_; rintro e w5 ⟨rfl, hw5⟩)
        go_ret2
        exact ApRet.no HR.out (by decide) (HS4.out.2.2.2.2.below hw5).kept
  · rw [e0] at HI
    have hil : i < l.length := (List.getElem?_eq_some_iff.1 hx).1
    have hilI : (i : Int) < (l.length : Int) := by omega
    have hi0 : ¬ ((i : Int) < 0) := by omega
    obtain ⟨a7, a1⟩ := any7_yes HTB.out (List.mem_of_getElem? hx) h1
    rw [← HUS.out] at a7 a1
    have A7 := Lib.hid a7
    have A1 := Lib.hid a1
    obtain ⟨b, o, rfl, _⟩ := HS.out.1.1.at hx
    have HX := Lib.hid hx
    clear e0 h1 h2 a7 a1 hx
    go_upto_region 3 with (go_at_call 49; refine HI.out.mono ?_; rintro e w3 ⟨rfl, hw3⟩)
    have HS3 := Lib.hid (AddS.below hw3 HS.out)
    clear hw3 HI HS
    have kO := (cellsR_mid (HS3.out.1.1.at' HX.out)).owner
    have kM := HS3.out.2.2.1.cellsM.2.2.2.2.2.2.1
    by_cases ho : x.u.owner = m.u.owner
    rotate_left
    · have hob : (x.u.owner != m.u.owner) = true := by simpa using ho
      rw [hob] at A7
      have HR := Lib.hid (show applyE us m.u room = 7 by rw [HAE.out, A7.out]; rfl)
      go_quiet (fail)
      have HB4 := Lib.hid (HS3.out.2.2.2.2.below (belowDrewN w3 nq)).kept
      clear HS3 kO kM
      generalize w3.drewN nq = W4 at *
      go_wp2_with fail
      go_ret2
      exact ApRet.no HR.out (by decide) HB4.out
    have hob : (x.u.owner != m.u.owner) = false := by simpa using ho
    rw [hob] at A7
    go_quiet (fail)
    have HS4 := Lib.hid (AddS.below (belowDrewN w3 nq) HS3.out)
    clear HS3 kO kM ho hob HX
    generalize w3.drewN nq = W4 at *
    have kC := HS4.out.2.2.1.cellsM.2.2.2.2.2.2.2
    cases hch : m.u.chk
    · rw [hch] at kC
      have HCH := Lib.hid hch
      have HR := Lib.hid (show applyE us m.u room = 0 by rw [HAE.out, A7.out, A1.out]; simp [HCH.out])
      have RR := Lib.hid HS4.out.2.2.2.1
      go_wp2_with (first
        | (refine wpList_load_row rfl 44 _ rfl Bn rfl 44 (rca (newR m)) (0, 0) _ RR.out Tryd.underlying44 rfl infoR ?_)
        | (refine kbuildOne KR okR #[Value.int IntKind.u64 0, Value.int IntKind.u64 0, Value.int IntKind.u64 0, Value.int IntKind.u64 0, Value.int IntKind.u64 0, Value.int IntKind.u64 0, Value.int IntKind.u64 0, Value.int IntKind.u64 0, Value.int IntKind.u64 0, Value.int IntKind.u64 0, Value.int IntKind.u64 0, Value.int IntKind.u64 0, Value.int IntKind.u64 0, Value.int IntKind.u64 0, Value.int IntKind.u64 0, Value.int IntKind.u64 0, Value.int IntKind.u64 0, Value.int IntKind.u64 0, Value.int IntKind.u64 0, Value.int IntKind.u64 0, Value.int IntKind.u64 0, Value.int IntKind.u64 0, Value.int IntKind.u64 0, Value.int IntKind.u64 0, Value.int IntKind.i64 0, Value.slice none 0 0, Value.int IntKind.i64 0, Value.int IntKind.i64 0, Value.int IntKind.i64 0, Value.int IntKind.i64 0, Value.int IntKind.i64 0, Value.int IntKind.i64 0] zeroR rfl (.tmp 43) rfl (rca (newR m)) rfl (by decide) (fillOne (newR m)) ?_; refine Hid.out ?_))
      have RA := Lib.hid (Blk.new W4 (rca (newR m)) KR.T)
      have HS8 := Lib.hid (AddS.below (below1 _ (.cells (rca (newR m)) KR.T)) HS4.out)
      clear RR HS4
      generalize W4.alloc (.cells (rca (newR m)) KR.T) = Wa at *
      generalize W4.heap.size = b1 at *
      refine Lib.hid ?_
      go_wp2_with (refine kbuildV2 rfl (.tmp 42) (.tmp 44) rfl (some ⟨b, o, none⟩) l.length cap (some ⟨b1, 0, none⟩) 1 1 rfl rfl ?_; refine Hid.out ?_)
      have HS9 := Lib.hid (AddS.below (below1 _ (.cells #[.slice (some ⟨b, o, none⟩) l.length cap, .slice (some ⟨b1, 0, none⟩) 1 1] KV.T)) HS8.out)
      have HK2 := Lib.hid (show KLies KR (.slice (some ⟨b1, 0, none⟩) 1 1) [newR m] (Wa.alloc (.cells #[.slice (some ⟨b, o, none⟩) l.length cap, .slice (some ⟨b1, 0, none⟩) 1 1] KV.T)) from Blk.klies (l := [newR m]) (RA.out.old _) okR rfl)
      have HBV := Lib.hid (Blk.new Wa #[.slice (some ⟨b, o, none⟩) l.length cap, .slice (some ⟨b1, 0, none⟩) 1 1] KV.T)
      clear RA HS8
      generalize Wa.alloc (.cells #[.slice (some ⟨b, o, none⟩) l.length cap, .slice (some ⟨b1, 0, none⟩) 1 1] KV.T) = Wb at *
      generalize Wa.heap.size = b2 at *
      have HCC := Lib.hid (concat_any b2 (.slice (some ⟨b, o, none⟩) l.length cap) (.slice (some ⟨b1, 0, none⟩) 1 1) l [newR m] (by simp) (by simp; omega) Wb HBV.out HS9.out.1.1 HK2.out)
      clear HBV HK2
      refine Lib.hid ?_
      go_wp2_with (go_at_call 56; refine HCC.out.mono ?_; rintro e w5 ⟨cv, rfl, hoC, hw5⟩; refine Hid.out ?_)
      have HS5 := Lib.hid (AddS.below hw5 HS9.out)
      have HRL := Lib.hid (show RLies cv (l ++ [newR m]) w5 from ⟨hoC.lies okR, fun r hr => by
        rcases List.mem_append.1 hr with hr | hr
        · exact HS5.out.1.2 r hr
        · simp only [List.mem_cons, List.not_mem_nil, or_false] at hr
          rw [hr]
          exact HS5.out.2.1.new⟩)
      have HSo := Lib.hid (rsort_any cv (l ++ [newR m]) (by simp; omega) (fun r hr => by
        rcases List.mem_append.1 hr with hr | hr
        · exact HWL.out r hr
        · simp only [List.mem_cons, List.not_mem_nil, or_false] at hr
          rw [hr]
          exact HW.out.new) w5 HRL.out HS5.out.2.2.2.2.tab HS5.out.2.2.2.2.lt)
      clear hoC hw5 HCC HS9 HRL
      refine Lib.hid ?_
      go_wp2_with (go_at_call 55; refine HSo.out.mono ?_; rintro e w6 ⟨g, L, rfl, hu, hc⟩)
      go_ret2
      have hE5 := HS5.out.2.2.2.2.kept
      exact ApRet.tab HR.out (by rw [hu]; unfold applyL; rw [if_pos HK1.out, HUS.out, List.map_append]; rfl) ⟨hc.1, hc.2.1, hE5.trans (hc.2.2.1.mono hE5.size), Nat.le_trans hE5.size hc.2.2.2⟩
    · rw [hch] at kC
      have HCH := Lib.hid hch
      have HCo := Lib.hid (rcontains_any 53 #[.pointer (some ⟨Bn, 0, none⟩)] (qOv (newU m.u)) en53 (.slice (some ⟨b, o, none⟩) l.length cap) l (by omega) HWL.out W4 HS4.out.1.1 (pred53 (n := newR m) HW.out.new.m HS4.out.2.2.2.1 HS4.out.2.2.2.2.tab HS4.out.2.2.2.2.lt))
      have hany := any6 l m.u
      rw [← HUS.out] at hany
      cases ha6 : l.any (qOv (newU m.u))
      · rw [ha6] at HCo hany
        have HAN := Lib.hid hany
        clear hany
        go_upto_region 7 with (go_at_call 52; refine HCo.out.mono ?_; rintro e w5 ⟨rfl, hw5⟩)
        have HS5a := Lib.hid (AddS.below hw5 HS4.out)
        clear hw5 HCo HS4 kC
        generalize w5 = W5 at *
        have HR := Lib.hid (show applyE us m.u room = 0 by rw [HAE.out, A7.out, A1.out]; simp [HCH.out, HAN.out])
        have RR := Lib.hid HS5a.out.2.2.2.1
        go_wp2_with (first
          | (refine wpList_load_row rfl 44 _ rfl Bn rfl 44 (rca (newR m)) (0, 0) _ RR.out Tryd.underlying44 rfl infoR ?_)
          | (refine kbuildOne KR okR #[Value.int IntKind.u64 0, Value.int IntKind.u64 0, Value.int IntKind.u64 0, Value.int IntKind.u64 0, Value.int IntKind.u64 0, Value.int IntKind.u64 0, Value.int IntKind.u64 0, Value.int IntKind.u64 0, Value.int IntKind.u64 0, Value.int IntKind.u64 0, Value.int IntKind.u64 0, Value.int IntKind.u64 0, Value.int IntKind.u64 0, Value.int IntKind.u64 0, Value.int IntKind.u64 0, Value.int IntKind.u64 0, Value.int IntKind.u64 0, Value.int IntKind.u64 0, Value.int IntKind.u64 0, Value.int IntKind.u64 0, Value.int IntKind.u64 0, Value.int IntKind.u64 0, Value.int IntKind.u64 0, Value.int IntKind.u64 0, Value.int IntKind.i64 0, Value.slice none 0 0, Value.int IntKind.i64 0, Value.int IntKind.i64 0, Value.int IntKind.i64 0, Value.int IntKind.i64 0, Value.int IntKind.i64 0, Value.int IntKind.i64 0] zeroR rfl (.tmp 43) rfl (rca (newR m)) rfl (by decide) (fillOne (newR m)) ?_; refine Hid.out ?_))
        have RA := Lib.hid (Blk.new W5 (rca (newR m)) KR.T)
        have HS8 := Lib.hid (AddS.below (below1 _ (.cells (rca (newR m)) KR.T)) HS5a.out)
        clear RR HS5a
        generalize W5.alloc (.cells (rca (newR m)) KR.T) = Wa at *
        generalize W5.heap.size = b1 at *
        refine Lib.hid ?_
        go_wp2_with (refine kbuildV2 rfl (.tmp 42) (.tmp 44) rfl (some ⟨b, o, none⟩) l.length cap (some ⟨b1, 0, none⟩) 1 1 rfl rfl ?_; refine Hid.out ?_)
        have HS9 := Lib.hid (AddS.below (below1 _ (.cells #[.slice (some ⟨b, o, none⟩) l.length cap, .slice (some ⟨b1, 0, none⟩) 1 1] KV.T)) HS8.out)
        have HK2 := Lib.hid (show KLies KR (.slice (some ⟨b1, 0, none⟩) 1 1) [newR m] (Wa.alloc (.cells #[.slice (some ⟨b, o, none⟩) l.length cap, .slice (some ⟨b1, 0, none⟩) 1 1] KV.T)) from Blk.klies (l := [newR m]) (RA.out.old _) okR rfl)
        have HBV := Lib.hid (Blk.new Wa #[.slice (some ⟨b, o, none⟩) l.length cap, .slice (some ⟨b1, 0, none⟩) 1 1] KV.T)
        clear RA HS8
        generalize Wa.alloc (.cells #[.slice (some ⟨b, o, none⟩) l.length cap, .slice (some ⟨b1, 0, none⟩) 1 1] KV.T) = Wb at *
        generalize Wa.heap.size = b2 at *
        have HCC := Lib.hid (concat_any b2 (.slice (some ⟨b, o, none⟩) l.length cap) (.slice (some ⟨b1, 0, none⟩) 1 1) l [newR m] (by simp) (by simp; omega) Wb HBV.out HS9.out.1.1 HK2.out)
        clear HBV HK2
        refine Lib.hid ?_
        go_wp2_with (go_at_call 56; refine HCC.out.mono ?_; rintro e w5 ⟨cv, rfl, hoC, hw5⟩; refine Hid.out ?_)
        have HS5 := Lib.hid (AddS.below hw5 HS9.out)
        have HRL := Lib.hid (show RLies cv (l ++ [newR m]) w5 from ⟨hoC.lies okR, fun r hr => by
          rcases List.mem_append.1 hr with hr | hr
          · exact HS5.out.1.2 r hr
          · simp only [List.mem_cons, List.not_mem_nil, or_false] at hr
            rw [hr]
            exact HS5.out.2.1.new⟩)
        have HSo := Lib.hid (rsort_any cv (l ++ [newR m]) (by simp; omega) (fun r hr => by
          rcases List.mem_append.1 hr with hr | hr
          · exact HWL.out r hr
          · simp only [List.mem_cons, List.not_mem_nil, or_false] at hr
            rw [hr]
            exact HW.out.new) w5 HRL.out HS5.out.2.2.2.2.tab HS5.out.2.2.2.2.lt)
        clear hoC hw5 HCC HS9 HRL
        refine Lib.hid ?_
        go_wp2_with (go_at_call 55; refine HSo.out.mono ?_; rintro e w6 ⟨g, L, rfl, hu, hc⟩)
        go_ret2
        have hE5 := HS5.out.2.2.2.2.kept
        exact ApRet.tab HR.out (by rw [hu]; unfold applyL; rw [if_pos HK1.out, HUS.out, List.map_append]; rfl) ⟨hc.1, hc.2.1, hE5.trans (hc.2.2.1.mono hE5.size), Nat.le_trans hE5.size hc.2.2.2⟩
      · rw [ha6] at HCo hany
        have HR := Lib.hid (show applyE us m.u room = 6 by rw [HAE.out, A7.out, hch, hany]; rfl)
        clear hany
        go_wp2_with (go_at_call 52; refine HCo.out.mono ?_; rintro e w5 ⟨rfl, hw5⟩)
        go_ret2
        exact ApRet.no HR.out (by decide) (HS4.out.2.2.2.2.below hw5).kept
end Go.Proofs.YtghfohglnbenaaaDoor
