/-
  The walk of the program's firstOfLean, Lean, leanThatFits.
-/
import Derived.Test.YtamjaohoicedfaaDoorSpaceSort
namespace Go.Proofs.YtamjaohoicedfaaDoor
open Go.RowKit

set_option maxHeartbeats 400000 in
theorem first1_any (c d : Nat → Int) (hc' : Wf c) (hd : Wf d) (B : Nat) (w : World) (ht : Tab w) (hz : 0 < w.heap.size) (hB : Blk B (cc c) 30 w) :
    Calls Tryd.prog 40 #[.agg (cc d), .pointer (some ⟨B, 0, none⟩)] w fun e w' => e = .returned (.bool (inB c d)) ∧ Below w.heap.size w w' := by
  have HE := Lib.hid ((Env.start ht hz).alloc (.cells (cc d) 30))
  have R0 := Lib.hid (Blk.new w (cc d) 30)
  have R1 := Lib.hid (hB.old (.cells (cc d) 30))
  have HM := Lib.hid (fun (W : World) (t : Tab W) (z : 0 < W.heap.size) => cwithin_any c d hc'.nonneg hd.nonneg W t z)
  clear ht hc' hd hB
  generalize inB c d = y at *
  go_enter Tryd.func40, Tryd.ntmps40
  go_wp2_with (first
    | (refine wpList_load_row rfl 30 _ rfl w.heap.size rfl 30 (cc d) (0, 0) _ R0.out Tryd.underlying30 rfl (by kernel_rfl) ?_)
    | (refine wpList_load_row rfl 30 _ rfl B rfl 30 (cc c) (0, 0) _ R1.out Tryd.underlying30 rfl (by kernel_rfl) ?_))
  refine (HM.out _ HE.out.tab HE.out.lt).mono ?_
  rintro e w1 ⟨rfl, hw1⟩
  go_wp2
  go_ret
  exact ⟨rfl, (HE.out.below hw1).kept⟩
theorem enFirst1 : Enters Tryd.prog 40 := enters_of Tryd.func40 (by kernel_rfl) rfl
/-- what firstOfLean keeps of cubes in their order, behind those kept so far -/
def leanGo (most : Nat) : List (Nat → Int) → List (Nat → Int) → List (Nat → Int)
  | [], out => out
  | c :: r, out => if out.length = most then out else if out.any (fun d => inB c d) then leanGo most r out else leanGo most r (out ++ [c])
theorem drop_nth (l : List (Nat → Int)) {r : Nat} (h : r < l.length) : l.drop r = nth l r :: l.drop (r + 1) := by
  rw [List.drop_eq_getElem_cons h]
  simp [nth, List.getElem?_eq_getElem h]
theorem leanGo_full {most : Nat} {r out : List (Nat → Int)} (h : out.length = most) : leanGo most r out = out := by
  cases r with
  | nil => rfl
  | cons c r => simp [leanGo, h]
theorem leanGo_in {most : Nat} {c : Nat → Int} {r out : List (Nat → Int)} (h : out.length ≠ most) (hi : out.any (fun d => inB c d) = true) : leanGo most (c :: r) out = leanGo most r out := by simp [leanGo, h, hi]
theorem leanGo_new {most : Nat} {c : Nat → Int} {r out : List (Nat → Int)} (h : out.length ≠ most) (hi : out.any (fun d => inB c d) = false) : leanGo most (c :: r) out = leanGo most r (out ++ [c]) := by simp [leanGo, h, hi]
/-- what firstOfLean has in memory while it goes over the sorted cubes -/
def FstAt (w : World) (N : Nat) (v : Value) (L : List (Nat → Int)) (out : Value) (lout : List (Nat → Int)) (W : World) : Prop :=
  Owns w.heap.size v L W ∧ (∀ k, v.ownBlock = some k → k < N) ∧ Owns N out lout W ∧ N ≤ W.heap.size ∧ w.heap.size ≤ N ∧ Below w.heap.size w W
section
variable {w : World} {N : Nat} {v : Value} {L : List (Nat → Int)} {out : Value} {lout : List (Nat → Int)} {W W' : World}
theorem FstAt.below (h : FstAt w N v L out lout W) (hb : Below W.heap.size W W') : FstAt w N v L out lout W' :=
  ⟨h.1.below hb, h.2.1, h.2.2.1.below hb, Nat.le_trans h.2.2.2.1 hb.size, h.2.2.2.2.1, h.2.2.2.2.2.trans (hb.mono h.2.2.2.2.2.size)⟩
theorem FstAt.grown {out' : Value} {lout' : List (Nat → Int)} (h : FstAt w N v L out lout W) (ho : Owns N out' lout' W') (hg : W.grownBy W' out.ownBlock) : FstAt w N v L out' lout' W' := by
  refine ⟨?_, h.2.1, ho, Nat.le_trans h.2.2.2.1 hg.size, h.2.2.2.2.1, belowOwn h.2.2.2.2.2 h.2.2.1 h.2.2.2.2.1 hg⟩
  refine World.ownsRow.kept h.1 hg ?_
  cases hv : v.ownBlock with
  | none => exact .inl rfl
  | some k =>
    refine .inr fun e => ?_
    have h1 := h.2.1 k hv
    have h2 := h.2.2.1.ge k e.symm
    omega
theorem FstAt.kept (h : FstAt w N v L out lout W) : Below w.heap.size w W := h.2.2.2.2.2
theorem FstAt.owns (h : FstAt w N v L out lout W) : Owns N out lout W := h.2.2.1
theorem FstAt.row (h : FstAt w N v L out lout W) : Owns w.heap.size v L W := h.1
end
/-- what firstOfLean returns: what is kept of the sound cubes, sorted -/
def FstRet (w : World) (most : Nat) (F : List (Nat → Int)) (e : Ending) (w' : World) : Prop :=
  ∃ L v, L.Perm F ∧ Sorted L ∧ e = .returned v ∧ Owns w.heap.size v (leanGo most L []) w' ∧ Below w.heap.size w w'
set_option maxHeartbeats 2000000 in
set_option maxRecDepth 100000 in
theorem first_any (u : Value) (l : List (Nat → Int)) (most : Nat) (hlen : l.length ≤ 1000000) (hw : WfL l) (w : World) (hl : Lies u l w) (ht : Tab w) (hz : 0 < w.heap.size) :
    Calls Tryd.prog 20 #[u, .int .i64 most] w (FstRet w most (l.filter csnd)) := by
  have H1 := Lib.hid (clone_any u l hlen w hl)
  have hE := Env.start ht hz
  have H2 := Lib.hid (fun (v : Value) (W : World) (ho : Owns w.heap.size v l W) (hb : Below w.heap.size w W) => delete_any 25 #[] (fun c => !csnd c) enUnsound w.heap.size v l hlen hw w W (Nat.le_refl _) ho hb (pred_unsound ht hz))
  simp only [Bool.not_not] at H2
  have hlenF : (l.filter csnd).length ≤ 1000000 := Nat.le_trans (List.length_filter_le _ _) hlen
  have hwF : WfL (l.filter csnd) := fun x hx => hw x (List.mem_filter.1 hx).1
  have H3 := Lib.hid (fun (v : Value) (W : World) (ho : Owns w.heap.size v (l.filter csnd) W) (hb : Below w.heap.size w W) => sort_any w.heap.size v (l.filter csnd) hlenF w W (Nat.le_refl _) ho hb)
  have HE := Lib.hid hE
  obtain ⟨p, cap, rfl⟩ := hl.form
  clear hl hw ht hE
  generalize l.filter csnd = F at *
  go_enter Tryd.func20, Tryd.ntmps20
  go_upto_region 2 with (first
    | (go_at_call 37; refine H1.out.mono ?_; rintro e w1 ⟨v1, rfl, ho1, hb1⟩)
    | (go_at_call 36; refine (H2.out _ _ ho1 hb1).mono ?_; rintro e w2 ⟨v2, rfl, ho2, hb2⟩))
  clear H1 H2 ho1 hb1
  obtain ⟨p2, cap2, rfl⟩ := ho2.form
  go_upto_region 3 with (go_at_call 38; refine (H3.out _ _ ho2 hb2).mono ?_; rintro e w3 ⟨rfl, L, hperm, hsort, ho3, hb3⟩)
  have hLF : L.length = F.length := hperm.length_eq
  rw [← hLF] at ho3 ⊢
  have HR := Lib.hid (And.intro hperm hsort)
  have hwL : WfL L := fun x hx => hwF x (hperm.mem_iff.1 hx)
  have HF := Lib.hid (show FstAt w w3.heap.size (.slice p2 L.length cap2) L (.slice none 0 0) [] w3 from
    ⟨ho3, fun k hk => (World.ownsRow.lt ho3 k hk).2, Owns.nil _ _, Nat.le_refl _, hb3.size, hb3⟩)
  have HW := Lib.hid hwL
  clear H3 ho2 hb2 ho3 hb3 hperm hsort hwF hwL
  have hlenL : L.length ≤ 1000000 := by omega
  clear hLF hlenF
  obtain ⟨T, hT⟩ : ∃ T, leanGo most L [] = T := ⟨_, rfl⟩
  have HT := Lib.hid hT
  clear hT
  generalize w3.heap.size = N at *
  go_wp2
  go_loopg [16, 6] L.length (fun k i out wr => ∃ (r : Nat) (lout : List (Nat → Int)), r + k = L.length ∧ i = .int .i64 r ∧ leanGo most (L.drop r) lout = T ∧ WfL lout ∧ lout.length ≤ r ∧ FstAt w N (.slice p2 L.length cap2) L out lout wr)
  case atStart => exact ⟨0, [], by omega, rfl, HT.out, fun x hx => absurd hx (by simp), by simp, HF.out⟩
  case round =>
    clear HF
    obtain ⟨r, lout, hr, rfl, hT', hwo, hlo, hF⟩ := hrel
    have HT' := Lib.hid hT'
    have HWo := Lib.hid hwo
    have HF := Lib.hid hF
    obtain ⟨po, capo, rfl⟩ := hF.owns.form
    clear hT' hwo hF
    by_cases hlt : r < L.length
    · have hltI : (r : Int) < (L.length : Int) := by omega
      obtain ⟨b, o, rfl, hrg⟩ := HF.out.row.lies.at hlt
      have HRg := Lib.hid hrg
      clear hrg
      have hdr := drop_nth L hlt
      have hwc := HW.out.nth hlt
      have HD := Lib.hid (And.intro hdr hwc)
      clear hdr hwc
      generalize nth L r = c at *
      have R0 := Lib.hid (Blk.new wr (cc c) 30)
      have HF1 := Lib.hid (HF.out.below (below1 wr (.cells (cc c) 30)))
      by_cases hm : lout.length = most
      · have hmI : ((lout.length : Int) == (most : Int)) = true := by rw [hm]; simp
        have HTe := Lib.hid (show lout = T from by rw [← HT'.out, leanGo_full hm])
        clear hm
        go_wp2_with (first
          | (refine wpList_load_mid rfl 30 _ rfl b (o + r * 24) rfl (cl c) _ HRg.out Tryd.underlying30 rfl infoCube ?_)
          | (refine wpList_store_row rfl 30 _ _ rfl wr.heap.size (cc c) rfl rfl 30 _ (heap_alloc_new _ _) (by kernel_rfl) rfl (cc_one _) ?_; rw [World.setRow_alloc_new]))
        go_ret
        exact ⟨L, _, HR.out.1, HR.out.2, rfl, by rw [HT.out, ← HTe.out]; exact HF1.out.owns.mono HF1.out.2.2.2.2.1, HF1.out.kept⟩
      · have hmI : ((lout.length : Int) == (most : Int)) = false := beq_eq_false_iff_ne.2 (by omega)
        have hE1 := HE.out.below HF1.out.kept
        have HC := Lib.hid (contains_any 40 #[.pointer (some ⟨wr.heap.size, 0, none⟩)] (fun d => inB c d) enFirst1 _ lout (by omega) HWo.out _ HF1.out.owns.lies (fun W hb d hd =>
          first1_any c d HD.out.2 hd wr.heap.size W (hE1.pred W hb).1 (hE1.pred W hb).2 (R0.out.below hb)))
        have HN := Lib.hid hm
        clear hm hE1
        cases hin : lout.any (fun d => inB c d)
        · rw [hin] at HC
          have HT2 := Lib.hid (show leanGo most (L.drop (r + 1)) (lout ++ [c]) = T from by rw [← HT'.out, HD.out.1, leanGo_new HN.out hin])
          clear hin HT'
          go_upto_region 9 with (first
            | (refine wpList_load_mid rfl 30 _ rfl b (o + r * 24) rfl (cl c) _ HRg.out Tryd.underlying30 rfl infoCube ?_)
            | (refine wpList_store_row rfl 30 _ _ rfl wr.heap.size (cc c) rfl rfl 30 _ (heap_alloc_new _ _) (by kernel_rfl) rfl (cc_one _) ?_; rw [World.setRow_alloc_new])
            | (go_at_call 24; refine HC.out.mono ?_; rintro e w4 ⟨rfl, hw4⟩))
          have R4 := Lib.hid (R0.out.below hw4)
          have HF4 := Lib.hid (HF1.out.below hw4)
          have HF5 := Lib.hid ((HF1.out.below hw4).below (below1 w4 (.cells (cc c) 30)))
          clear hw4 HC R0 HF1 HRg HF
          have hNw : N ≤ (w4.alloc (.cells (cc c) 30)).heap.size := HF5.out.2.2.2.1
          have hll : lout.length ≤ 1000000 := by omega
          go_upto_region 10 with (first
            | (refine wpList_load_row rfl 30 (.tmp 8) rfl wr.heap.size rfl 30 (cc c) (0, 0) _ R4.out Tryd.underlying30 rfl (by kernel_rfl) ?_)
            | (refine buildCube rfl (.tmp 29) rfl c rfl ?_)
            | (refine appendCube rfl (.tmp 28) (.tmp 30) rfl N _ lout c rfl HF5.out.owns w4.heap.size rfl (Blk.new w4 _ _) hNw hll (fun v' w' ho hg => ?_)))
          have HF6 := Lib.hid (HF5.out.grown ho hg)
          clear ho hg HF5 HF4 R4
          go_wp2
          go_roundg (L.length - (r + 1))
          case measure => omega
          case rel =>
            refine ⟨r + 1, lout ++ [c], by omega, by go_num, HT2.out, fun x hx => ?_, by simp; omega, HF6.out⟩
            rcases List.mem_append.1 hx with hx | hx
            · exact HWo.out x hx
            · rw [List.mem_singleton.1 hx]; exact HD.out.2
        · rw [hin] at HC
          have HT2 := Lib.hid (show leanGo most (L.drop (r + 1)) lout = T from by rw [← HT'.out, HD.out.1, leanGo_in HN.out hin])
          clear hin HT'
          go_wp2_with (first
            | (refine wpList_load_mid rfl 30 _ rfl b (o + r * 24) rfl (cl c) _ HRg.out Tryd.underlying30 rfl infoCube ?_)
            | (refine wpList_store_row rfl 30 _ _ rfl wr.heap.size (cc c) rfl rfl 30 _ (heap_alloc_new _ _) (by kernel_rfl) rfl (cc_one _) ?_; rw [World.setRow_alloc_new])
            | (go_at_call 24; refine HC.out.mono ?_; rintro e w4 ⟨rfl, hw4⟩))
          have HF4 := Lib.hid (HF1.out.below hw4)
          clear hw4 HC R0 HF1 HRg HF
          go_roundg (L.length - (r + 1))
          case measure => omega
          case rel => exact ⟨r + 1, lout, by omega, by go_num, HT2.out, HWo.out, by omega, HF4.out⟩
    · have hltI : ¬ (r : Int) < (L.length : Int) := by omega
      have HTe := Lib.hid (show lout = T from by rw [← HT'.out, List.drop_eq_nil_of_le (by omega)]; rfl)
      go_wp2
      go_ret
      exact ⟨L, _, HR.out.1, HR.out.2, rfl, by rw [HT.out, ← HTe.out]; exact HF.out.owns.mono HF.out.2.2.2.2.1, HF.out.kept⟩
end Go.Proofs.YtamjaohoicedfaaDoor
