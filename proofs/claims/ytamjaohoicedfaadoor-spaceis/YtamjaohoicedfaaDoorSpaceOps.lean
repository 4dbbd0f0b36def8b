/-
  The walks of the program's Lean, leanThatFits, Meet of package space.
-/
import Derived.Test.YtamjaohoicedfaaDoorSpaceFst
namespace Go.Proofs.YtamjaohoicedfaaDoor
open Go.RowKit

theorem lean_any (u : Value) (l : List (Nat → Int)) (hlen : l.length ≤ 1000000) (hw : WfL l) (w : World) (hl : Lies u l w) (ht : Tab w) (hz : 0 < w.heap.size) :
    Calls Tryd.prog 8 #[u] w (FstRet w l.length (l.filter csnd)) := by
  have H1 := Lib.hid (first_any u l l.length hlen hw w hl ht hz)
  obtain ⟨p, cap, rfl⟩ := hl.form
  clear hl hw ht
  generalize l.filter csnd = F at *
  go_enter Tryd.func8, Tryd.ntmps8
  go_wp2_with (go_at_call 20; refine H1.out.mono ?_; rintro e w1 ⟨L, v, h1, h2, rfl, h3, h4⟩)
  go_ret
  exact ⟨L, v, h1, h2, rfl, h3, h4⟩
/-- a slice and an error are returned -/
def PairRet (w : World) (R : List (Nat → Int)) (err : Int) (e : Ending) (w' : World) : Prop := ∃ v, e = .returned (.tuple #[v, .int .i64 err]) ∧ Owns w.heap.size v R w' ∧ Below w.heap.size w w'
/-- what leanThatFits gives -/
def FitsOf (F : List (Nat → Int)) (R : List (Nat → Int)) (err : Int) : Prop :=
  ∃ L, L.Perm F ∧ Sorted L ∧ ((64 < (leanGo 65 L []).length ∧ R = [] ∧ err = 3) ∨ ((leanGo 65 L []).length ≤ 64 ∧ R = leanGo 65 L [] ∧ err = 0))
def FitRet (w : World) (F : List (Nat → Int)) (e : Ending) (w' : World) : Prop := ∃ R err, FitsOf F R err ∧ PairRet w R err e w'
set_option maxHeartbeats 400000 in
theorem leanFits_any (u : Value) (l : List (Nat → Int)) (hlen : l.length ≤ 1000000) (hw : WfL l) (w : World) (hl : Lies u l w) (ht : Tab w) (hz : 0 < w.heap.size) :
    Calls Tryd.prog 32 #[u] w (FitRet w (l.filter csnd)) := by
  have H1 := Lib.hid (first_any u l 65 hlen hw w hl ht hz)
  obtain ⟨p, cap, rfl⟩ := hl.form
  clear hl hw ht
  generalize l.filter csnd = F at *
  go_enter Tryd.func32, Tryd.ntmps32
  go_upto_region 2 with (go_at_call 20; refine H1.out.mono ?_; rintro e w1 ⟨L, v, h1, h2, rfl, h3, h4⟩)
  obtain ⟨q, c, rfl⟩ := h3.form
  have HA := Lib.hid (And.intro h1 h2)
  have HO := Lib.hid h3
  have HB := Lib.hid h4
  clear h1 h2 h3 h4 H1
  obtain ⟨G, hG⟩ : ∃ G, leanGo 65 L [] = G := ⟨_, rfl⟩
  rw [hG] at HO ⊢
  have HG := Lib.hid hG
  clear hG
  by_cases h : 64 < G.length
  · have hI : (64 : Int) < (G.length : Int) := by omega
    go_wp2
    go_ret2
    exact ⟨[], 3, ⟨L, HA.out.1, HA.out.2, .inl ⟨by rw [HG.out]; exact h, rfl, rfl⟩⟩, _, rfl, Owns.nil _ _, HB.out⟩
  · have hI : ¬ (64 : Int) < (G.length : Int) := by omega
    go_wp2
    go_ret2
    exact ⟨G, 0, ⟨L, HA.out.1, HA.out.2, .inr ⟨by rw [HG.out]; omega, HG.out.symm, rfl⟩⟩, _, rfl, HO.out, HB.out⟩
/-- what two spaces' cubes have in common, pair by pair -/
def meets1 (c : Nat → Int) (k : List (Nat → Int)) : List (Nat → Int) := k.filterMap fun d => if metB c d then some (metV c d) else none
def meetsL (l k : List (Nat → Int)) : List (Nat → Int) := l.flatMap fun c => meets1 c k
theorem meets1_snoc (c : Nat → Int) (k : List (Nat → Int)) {r : Nat} (h : r < k.length) : meets1 c (k.take (r + 1)) = meets1 c (k.take r) ++ (if metB c (nth k r) then [metV c (nth k r)] else []) := by
  unfold meets1
  rw [take_nth k h, List.filterMap_append]
  congr 1
  by_cases h' : metB c (nth k r) = true
  · simp [h']
  · simp [h']
theorem meetsL_snoc (l k : List (Nat → Int)) {r : Nat} (h : r < l.length) : meetsL (l.take (r + 1)) k = meetsL (l.take r) k ++ meets1 (nth l r) k := by
  unfold meetsL
  rw [take_nth l h, List.flatMap_append]
  simp
theorem meets1_len (c : Nat → Int) (k : List (Nat → Int)) : (meets1 c k).length ≤ k.length := List.length_filterMap_le _ _
theorem meetsL_len (l k : List (Nat → Int)) : (meetsL l k).length ≤ l.length * k.length := by
  unfold meetsL
  induction l with
  | nil => simp
  | cons a l ih =>
    rw [List.flatMap_cons, List.length_append, List.length_cons, Nat.add_mul, Nat.one_mul]
    have := meets1_len a k
    omega
theorem meets1_wf {c : Nat → Int} {k : List (Nat → Int)} (hc : Wf c) (hk : WfL k) : WfL (meets1 c k) := by
  intro x hx
  unfold meets1 at hx
  obtain ⟨d, hd, e⟩ := List.mem_filterMap.1 hx
  split at e
  · injection e with e
    rw [← e]; exact metV_wf hc (hk d hd)
  · cases e
theorem meetsL_wf {l k : List (Nat → Int)} (hl : WfL l) (hk : WfL k) : WfL (meetsL l k) := by
  intro x hx
  unfold meetsL at hx
  obtain ⟨c, hc, hx⟩ := List.mem_flatMap.1 hx
  exact meets1_wf (hl c hc) hk x hx
theorem Lies.one {B : Nat} {c : Nat → Int} {W : World} (h : Blk B (cc c) 30 W) : Lies (.slice (some ⟨B, 0, none⟩) 1 1) [c] W := by
  refine .inr ⟨⟨B, 0, none⟩, 1, rfl, by simp, fun i hi => ⟨rfl, ?_⟩⟩
  have : i = 0 := by simpa using hi
  subst this
  intro j v hv
  have hj : j < 24 := by have := (List.getElem?_eq_some_iff.1 hv).1; rwa [cl_len] at this
  have e : nth [c] 0 = c := rfl
  rw [e, cl_get c j hj] at hv
  rw [show 0 + 0 * 24 + j = j by omega, cellC h hj]
  exact hv
/-- what Meet has in memory: the cubes in common so far, and one cube in a block of its own -/
def MtAt (w : World) (B : Nat) (c : Nat → Int) (out : Value) (lout : List (Nat → Int)) (W : World) : Prop :=
  Owns w.heap.size out lout W ∧ out.ownBlock ≠ some B ∧ Blk B (cc c) 30 W ∧ Below w.heap.size w W
section
variable {w : World} {B : Nat} {c : Nat → Int} {out out' : Value} {lout lout' : List (Nat → Int)} {W W' : World}
theorem MtAt.below (h : MtAt w B c out lout W) (hb : Below W.heap.size W W') : MtAt w B c out lout W' := ⟨h.1.below hb, h.2.1, h.2.2.1.below hb, h.2.2.2.trans (hb.mono h.2.2.2.size)⟩
theorem MtAt.grown (h : MtAt w B c out lout W) (ho : Owns w.heap.size out' lout' W') (hg : W.grownBy W' out.ownBlock) (hat : out'.ownBlock = out.ownBlock ∨ out'.ownBlock = some W.heap.size) : MtAt w B c out' lout' W' := by
  refine ⟨ho, ?_, (hg.block B h.2.2.1.lt (Ne.symm h.2.1)).trans h.2.2.1, belowOwn h.2.2.2 h.1 (Nat.le_refl _) hg⟩
  rcases hat with e | e
  · rw [e]; exact h.2.1
  · rw [e]; intro e'; injection e' with e'; have := h.2.2.1.lt; omega
end
theorem Owns.fresh {base : Nat} {v : Value} {l : List (Nat → Int)} {W : World} (h : Owns base v l W) : v.ownBlock ≠ some W.heap.size := fun e => by have := (World.ownsRow.lt h _ e).2; omega
/-- what Meet gives -/
def MeetRet (w : World) (l k : List (Nat → Int)) (e : Ending) (w' : World) : Prop :=
  (sndL l && sndL k) = false ∧ PairRet w [] 2 e w' ∨ (sndL l && sndL k) = true ∧ FitRet w ((meetsL l k).filter csnd) e w'
set_option maxHeartbeats 1000000 in
theorem smeet_form (p q : Option Addr) (cp cq : Nat) (l k : List (Nat → Int)) (hlen : l.length ≤ 1000000) (hlen' : k.length ≤ 1000000) (hw : WfL l) (hw' : WfL k) (w : World) (hl : Lies (.slice p l.length cp) l w) (hk : Lies (.slice q k.length cq) k w) (ht : Tab w) (hz : 0 < w.heap.size) (hs : (sndL l && sndL k) = false) :
    Calls Tryd.prog 16 #[.slice p l.length cp, .slice q k.length cq] w (PairRet w [] 2) := by
  have H1 := Lib.hid (ssound_any _ l hlen hw w hl ht hz)
  have H2 := Lib.hid (fun (W : World) (hb : Below w.heap.size w W) => ssound_any _ k hlen' hw' W (hk.below hb) ((Env.start ht hz).pred W hb).1 ((Env.start ht hz).pred W hb).2)
  clear hl hk hw hw' ht
  cases h1 : sndL l
  · rw [h1] at H1
    go_enter Tryd.func16, Tryd.ntmps16
    go_wp2_with (go_at_call 10; refine H1.out.mono ?_; rintro e w1 ⟨rfl, hw1⟩)
    go_ret2
    exact ⟨_, rfl, Owns.nil _ _, hw1⟩
  · rw [h1, Bool.true_and] at hs
    rw [h1] at H1
    rw [hs] at H2
    clear hs h1
    go_enter Tryd.func16, Tryd.ntmps16
    go_wp2_with (first | (go_at_call 10; refine H1.out.mono ?_; rintro e w1 ⟨rfl, hw1⟩; clear H1) | (go_at_call 10; refine (H2.out _ hw1).mono ?_; rintro e w2 ⟨rfl, hw2⟩))
    go_ret2
    exact ⟨_, rfl, Owns.nil _ _, hw1.trans (hw2.mono hw1.size)⟩
set_option maxHeartbeats 4000000 in
set_option maxRecDepth 100000 in
theorem smeet_yes (p q : Option Addr) (cp cq : Nat) (l k : List (Nat → Int)) (hlen : l.length ≤ 64) (hlen' : k.length ≤ 64) (hw : WfL l) (hw' : WfL k) (w : World) (hl : Lies (.slice p l.length cp) l w) (hk : Lies (.slice q k.length cq) k w) (ht : Tab w) (hz : 0 < w.heap.size) (h1 : sndL l = true) (h2 : sndL k = true) :
    Calls Tryd.prog 16 #[.slice p l.length cp, .slice q k.length cq] w (FitRet w ((meetsL l k).filter csnd)) := by
  have H1 := Lib.hid (ssound_any _ l (by omega) hw w hl ht hz)
  have H2 := Lib.hid (fun (W : World) (hb : Below w.heap.size w W) => ssound_any _ k (by omega) hw' W (hk.below hb) ((Env.start ht hz).pred W hb).1 ((Env.start ht hz).pred W hb).2)
  rw [h1] at H1
  rw [h2] at H2
  have HE := Lib.hid (Env.start ht hz)
  have HL := Lib.hid hl
  have HK := Lib.hid hk
  have HW := Lib.hid hw
  have HW' := Lib.hid hw'
  clear hl hk hw hw' ht h1 h2
  have HF := Lib.hid (fun (v : Value) (W : World) (ho : Owns w.heap.size v (meetsL l k) W) (hb : Below w.heap.size w W) =>
    leanFits_any v (meetsL l k) (by have := meetsL_len l k; have := Nat.mul_le_mul hlen hlen'; omega) (meetsL_wf HW.out HW'.out) W ho.lies (HE.out.pred W hb).1 (HE.out.pred W hb).2)
  obtain ⟨T, hT⟩ : ∃ T, meetsL l k = T := ⟨_, rfl⟩
  have HT := Lib.hid hT
  rw [hT] at HF ⊢
  clear hT
  go_enter Tryd.func16, Tryd.ntmps16
  go_upto_region 3 with (first | (go_at_call 10; refine H1.out.mono ?_; rintro e w1 ⟨rfl, hw1⟩; clear H1) | (go_at_call 10; refine (H2.out _ hw1).mono ?_; rintro e w2 ⟨rfl, hw2⟩))
  have HB := Lib.hid (hw1.trans (hw2.mono hw1.size))
  clear hw1 hw2 H2
  go_wp2
  go_loopg [23, 6] l.length (fun kk i out wr => ∃ (r : Nat), r + kk = l.length ∧ i = .int .i64 r ∧ Owns w.heap.size out (meetsL (l.take r) k) wr ∧ Below w.heap.size w wr)
  case atStart => exact ⟨0, by omega, rfl, Owns.nil _ _, HB.out⟩
  case round =>
    clear HB
    obtain ⟨r, hr, rfl, hO, hB⟩ := hrel
    have HO := Lib.hid hO
    have HB := Lib.hid hB
    clear hO hB
    by_cases hlt : r < l.length
    · have hltI : (r : Int) < (l.length : Int) := by omega
      obtain ⟨b, o, rfl, hrg⟩ := (HL.out.below HB.out).at hlt
      have HR := Lib.hid hrg
      clear hrg
      have HS := Lib.hid (And.intro (meetsL_snoc l k hlt) (HW.out.nth hlt))
      generalize nth l r = c at *
      have HM := Lib.hid (show MtAt w wr.heap.size c u6 (meetsL (l.take r) k) (wr.alloc (.cells (cc c) 30)) from
        ⟨HO.out.below (below1 _ _), HO.out.fresh, Blk.new _ _ _, HB.out.alloc HB.out.size _⟩)
      obtain ⟨M, hM⟩ : ∃ M, meetsL (l.take r) k = M := ⟨_, rfl⟩
      rw [hM] at HM HS
      have hMl : M.length ≤ 4096 := by
        rw [← hM]
        have a := meetsL_len (l.take r) k
        have b : (l.take r).length ≤ 64 := by rw [List.length_take]; omega
        have := Nat.mul_le_mul b hlen'
        omega
      clear hM HO HB
      go_upto_region 7 with (first
        | (refine wpList_load_mid rfl 30 _ rfl b (o + r * 24) rfl (cl c) _ HR.out Tryd.underlying30 rfl infoCube ?_)
        | (refine wpList_store_row rfl 30 _ _ rfl wr.heap.size (cc c) rfl rfl 30 _ (heap_alloc_new _ _) (by kernel_rfl) rfl (cc_one _) ?_; rw [World.setRow_alloc_new]))
      clear HR
      generalize wr.alloc (.cells (cc c) 30) = W1 at *
      generalize wr.heap.size = B at *
      go_wp2
      go_loopg [29, 6] k.length (fun kk i out wr => ∃ (s : Nat), s + kk = k.length ∧ i = .int .i64 s ∧ MtAt w B c out (M ++ meets1 c (k.take s)) wr)
      case atStart => exact ⟨0, by omega, rfl, by simpa [meets1] using HM.out⟩
      case round =>
        clear HM
        obtain ⟨s, hs, rfl, hM⟩ := hrel
        have HM := Lib.hid hM
        clear hM
        by_cases hlt2 : s < k.length
        · have hltI2 : (s : Int) < (k.length : Int) := by omega
          obtain ⟨b2, o2, rfl, hrg⟩ := (HK.out.below HM.out.2.2.2).at hlt2
          have HR := Lib.hid hrg
          clear hrg
          have HS2 := Lib.hid (And.intro (meets1_snoc c k hlt2) (HW'.out.nth hlt2))
          generalize nth k s = d at *
          have R0 := Lib.hid (Blk.new wr (cc d) 30)
          have HM1 := Lib.hid (HM.out.below (below1 wr (.cells (cc d) 30)))
          have hE1 := HE.out.below HM1.out.2.2.2
          have HC := Lib.hid (cmeet_any c d HS.out.2.nonneg HS2.out.2.nonneg _ hE1.tab hE1.lt)
          have HQ := Lib.hid (metV_wf HS.out.2 HS2.out.2)
          clear hE1 HM
          have hs2 := HS2.out.1
          clear HS2
          generalize metV c d = m at *
          cases hy : metB c d
          · rw [hy] at HC hs2
            have HE2 := Lib.hid (show meets1 c (k.take (s + 1)) = meets1 c (k.take s) from by rw [hs2]; simp)
            clear hy hs2
            go_upto_region 11 with (first
              | (refine wpList_load_mid rfl 30 (.tmp 31) rfl b2 (o2 + s * 24) rfl (cl d) _ HR.out Tryd.underlying30 rfl infoCube ?_)
              | (refine wpList_store_row rfl 30 (.tmp 10) (.tmp 32) rfl wr.heap.size (cc d) rfl rfl 30 _ (heap_alloc_new _ _) (by kernel_rfl) rfl (cc_one _) ?_; rw [World.setRow_alloc_new])
              | (refine wpList_load_row rfl 30 (.tmp 8) rfl B rfl 30 (cc c) (0, 0) _ HM1.out.2.2.1 Tryd.underlying30 rfl (by kernel_rfl) ?_)
              | (refine wpList_load_row rfl 30 (.tmp 10) rfl wr.heap.size rfl 30 (cc d) (0, 0) _ R0.out Tryd.underlying30 rfl (by kernel_rfl) ?_)
              | (go_at_call 31; refine HC.out.mono ?_; rintro e w4 ⟨rfl, hw4⟩)
              | (refine wpList_store_row rfl 30 (.tmp 11) (.tmp 37) rfl w4.heap.size (cc m) rfl rfl 30 _ (heap_alloc_new _ _) (by kernel_rfl) rfl (cc_one _) ?_; rw [World.setRow_alloc_new]))
            have HM2 := Lib.hid ((HM1.out.below hw4).below (below1 w4 (.cells (cc m) 30)))
            clear hw4 HC R0 HM1 HR
            generalize w4.alloc (.cells (cc m) 30) = W5 at *
            go_wp2
            go_roundg (k.length - (s + 1))
            case measure => omega
            case rel => exact ⟨s + 1, by omega, by go_num, by rw [HE2.out]; exact HM2.out⟩
          · rw [hy] at HC hs2
            have HE2 := Lib.hid (show M ++ meets1 c (k.take (s + 1)) = M ++ meets1 c (k.take s) ++ [m] from by rw [hs2]; simp)
            have hll : (M ++ meets1 c (k.take s)).length + [m].length ≤ 1000000 := by
              have a := meets1_len c (k.take s)
              have b : (k.take s).length ≤ 64 := by rw [List.length_take]; omega
              rw [List.length_append]
              simp
              omega
            clear hy hs2
            go_upto_region 11 with (first
              | (refine wpList_load_mid rfl 30 (.tmp 31) rfl b2 (o2 + s * 24) rfl (cl d) _ HR.out Tryd.underlying30 rfl infoCube ?_)
              | (refine wpList_store_row rfl 30 (.tmp 10) (.tmp 32) rfl wr.heap.size (cc d) rfl rfl 30 _ (heap_alloc_new _ _) (by kernel_rfl) rfl (cc_one _) ?_; rw [World.setRow_alloc_new])
              | (refine wpList_load_row rfl 30 (.tmp 8) rfl B rfl 30 (cc c) (0, 0) _ HM1.out.2.2.1 Tryd.underlying30 rfl (by kernel_rfl) ?_)
              | (refine wpList_load_row rfl 30 (.tmp 10) rfl wr.heap.size rfl 30 (cc d) (0, 0) _ R0.out Tryd.underlying30 rfl (by kernel_rfl) ?_)
              | (go_at_call 31; refine HC.out.mono ?_; rintro e w4 ⟨rfl, hw4⟩)
              | (refine wpList_store_row rfl 30 (.tmp 11) (.tmp 37) rfl w4.heap.size (cc m) rfl rfl 30 _ (heap_alloc_new _ _) (by kernel_rfl) rfl (cc_one _) ?_; rw [World.setRow_alloc_new]))
            have HM2 := Lib.hid ((HM1.out.below hw4).below (below1 w4 (.cells (cc m) 30)))
            have R4 := Lib.hid (Blk.new w4 (cc m) 30)
            clear hw4 HC R0 HM1 HR
            generalize w4.alloc (.cells (cc m) 30) = W5 at *
            generalize w4.heap.size = B4 at *
            have HM3 := Lib.hid (HM2.out.below (below1 W5 (.cells (cc m) 30)))
            have hsz := HM3.out.2.2.2.size
            go_upto_region 13 with (first
              | (refine wpList_load_row rfl 30 (.tmp 11) rfl B4 rfl 30 (cc m) (0, 0) _ R4.out Tryd.underlying30 rfl (by kernel_rfl) ?_)
              | (refine buildCube rfl (.tmp 41) rfl m rfl ?_)
              | (refine appendL rfl (.tmp 40) (.tmp 42) rfl w.heap.size _ (M ++ meets1 c (k.take s)) [m] rfl HM3.out.1 _ rfl (Lies.one (Blk.new W5 _ _)) hsz hll (fun v' w' ho hg hat => ?_)))
            have HM4 := Lib.hid (HM3.out.grown ho hg hat)
            clear ho hg hat HM3 HM2 R4 hsz
            go_wp2
            go_roundg (k.length - (s + 1))
            case measure => omega
            case rel => exact ⟨s + 1, by omega, by go_num, by rw [HE2.out]; exact HM4.out⟩
        · have hltI2 : ¬ (s : Int) < (k.length : Int) := by omega
          have HE2 := Lib.hid (show M ++ meets1 c (k.take s) = meetsL (l.take (r + 1)) k from by rw [HS.out.1, List.take_of_length_le (by omega)])
          go_wp2
          go_roundg (l.length - (r + 1))
          case measure => omega
          case rel => exact ⟨r + 1, by omega, by go_num, by rw [← HE2.out]; exact HM.out.1, HM.out.2.2.2⟩
    · have hltI : ¬ (r : Int) < (l.length : Int) := by omega
      have hO := HO.out
      rw [List.take_of_length_le (by omega), HT.out] at hO
      have HO2 := Lib.hid hO
      clear hO HO
      go_wp2_with (go_at_call 32; refine (HF.out _ _ HO2.out HB.out).mono ?_; rintro e w4 ⟨R, err, hf, v, rfl, ho, hb⟩)
      go_ret2
      exact ⟨R, err, hf, v, rfl, ho.mono HB.out.size, HB.out.trans (hb.mono HB.out.size)⟩
theorem smeet_any (v u : Value) (l k : List (Nat → Int)) (hlen : l.length ≤ 1000000) (hlen' : k.length ≤ 1000000) (hw : WfL l) (hw' : WfL k) (w : World) (hl : Lies v l w) (hk : Lies u k w) (ht : Tab w) (hz : 0 < w.heap.size) :
    Calls Tryd.prog 16 #[v, u] w (MeetRet w l k) := by
  obtain ⟨p, cp, rfl⟩ := hl.form
  obtain ⟨q, cq, rfl⟩ := hk.form
  cases h : (sndL l && sndL k)
  · exact (smeet_form p q cp cq l k hlen hlen' hw hw' w hl hk ht hz h).mono fun e w' hp => .inl ⟨h, hp⟩
  · obtain ⟨h1, h2⟩ := Bool.and_eq_true_iff.1 h
    have a : l.length ≤ 64 := by unfold sndL at h1; simpa using (Bool.and_eq_true_iff.1 h1).1
    have b : k.length ≤ 64 := by unfold sndL at h2; simpa using (Bool.and_eq_true_iff.1 h2).1
    exact (smeet_yes p q cp cq l k a b hw hw' w hl hk ht hz h1 h2).mono fun e w' hp => .inr ⟨h, hp⟩
end Go.Proofs.YtamjaohoicedfaaDoor
