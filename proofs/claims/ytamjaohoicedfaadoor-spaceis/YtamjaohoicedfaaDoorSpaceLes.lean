/-
  The walks of the program's Less and Within of package space.
-/
import Derived.Test.YtamjaohoicedfaaDoorSpaceOps
namespace Go.Proofs.YtamjaohoicedfaaDoor
open Go.RowKit

theorem leanGo_sub (m : Nat) : ∀ (L out : List (Nat → Int)) (x : Nat → Int), x ∈ leanGo m L out → x ∈ L ∨ x ∈ out
  | [], _, _, h => .inr h
  | c :: L, out, x, h => by
    unfold leanGo at h
    split at h
    · exact .inr h
    · split at h
      · rcases leanGo_sub m L out x h with h | h
        · exact .inl (List.mem_cons_of_mem _ h)
        · exact .inr h
      · rcases leanGo_sub m L _ x h with h | h
        · exact .inl (List.mem_cons_of_mem _ h)
        · rcases List.mem_append.1 h with h | h
          · exact .inr h
          · exact .inl (by rw [List.mem_singleton.1 h]; simp)
theorem leanGo_len (m : Nat) : ∀ (L out : List (Nat → Int)), (leanGo m L out).length ≤ L.length + out.length
  | [], _ => by simp [leanGo]
  | c :: L, out => by
    unfold leanGo
    split
    · simp
    · split
      · have := leanGo_len m L out
        simp; omega
      · have := leanGo_len m L (out ++ [c])
        simp at this ⊢; omega
/-- what Lean gives -/
def LeanOf (l R : List (Nat → Int)) : Prop := ∃ L, L.Perm (l.filter csnd) ∧ Sorted L ∧ R = leanGo l.length L []
theorem LeanOf.sub {l R : List (Nat → Int)} (h : LeanOf l R) : ∀ x ∈ R, x ∈ l ∧ csnd x = true := by
  obtain ⟨L, h1, _, rfl⟩ := h
  intro x hx
  rcases leanGo_sub _ _ _ x hx with h | h
  · have := h1.mem_iff.1 h
    exact List.mem_filter.1 this
  · cases h
theorem LeanOf.len {l R : List (Nat → Int)} (h : LeanOf l R) : R.length ≤ l.length := by
  obtain ⟨L, h1, _, rfl⟩ := h
  have a := leanGo_len l.length L []
  have b := h1.length_eq
  have c := List.length_filter_le csnd l
  simp at a
  omega
theorem FitsOf.sub {F R : List (Nat → Int)} {err : Int} (h : FitsOf F R err) : ∀ x ∈ R, x ∈ F := by
  obtain ⟨L, h1, _, ⟨_, rfl, _⟩ | ⟨_, rfl, _⟩⟩ := h
  · intro x hx; cases hx
  · intro x hx
    rcases leanGo_sub _ _ _ x hx with h | h
    · exact h1.mem_iff.1 h
    · cases h
theorem FitsOf.len {F R : List (Nat → Int)} {err : Int} (h : FitsOf F R err) : R.length ≤ 64 := by
  obtain ⟨L, h1, _, ⟨_, rfl, _⟩ | ⟨h2, rfl, _⟩⟩ := h
  · simp
  · exact h2
theorem FitsOf.err {F R : List (Nat → Int)} {err : Int} (h : FitsOf F R err) : err = 3 ∧ R = [] ∨ err = 0 := by
  obtain ⟨L, h1, _, ⟨_, h3, h4⟩ | ⟨_, _, h4⟩⟩ := h
  · exact .inl ⟨h4, h3⟩
  · exact .inr h4
/-- the pieces that are left of some cubes without one -/
def pieces (left : List (Nat → Int)) (d : Nat → Int) : List (Nat → Int) := left.flatMap fun c => lessL c d
theorem pieces_snoc (left : List (Nat → Int)) (d : Nat → Int) {r : Nat} (h : r < left.length) : pieces (left.take (r + 1)) d = pieces (left.take r) d ++ lessL (nth left r) d := by
  unfold pieces
  rw [take_nth left h, List.flatMap_append]
  simp
theorem pieces_len (left : List (Nat → Int)) (d : Nat → Int) : (pieces left d).length ≤ left.length * 768 := by
  unfold pieces
  induction left with
  | nil => simp
  | cons a l ih =>
    rw [List.flatMap_cons, List.length_append, List.length_cons, Nat.add_mul, Nat.one_mul]
    have := lessL_len a d
    omega
theorem pieces_wf {left : List (Nat → Int)} {d : Nat → Int} (hl : WfL left) (hd : Wf d) : WfL (pieces left d) := by
  intro x hx
  unfold pieces at hx
  obtain ⟨c, hc, hx⟩ := List.mem_flatMap.1 hx
  exact lessL_wf (hl c hc) hd x hx
/-- what Less gives, cube by cube of the second space -/
inductive LessGo : List (Nat → Int) → List (Nat → Int) → List (Nat → Int) → Int → Prop
  | done (left : List (Nat → Int)) : LessGo [] left left 0
  | full {d : Nat → Int} {r left : List (Nat → Int)} : FitsOf ((pieces left d).filter csnd) [] 3 → LessGo (d :: r) left [] 3
  | step {d : Nat → Int} {r left left' R : List (Nat → Int)} {err : Int} : FitsOf ((pieces left d).filter csnd) left' 0 → LessGo r left' R err → LessGo (d :: r) left R err
/-- what Less returns -/
def LesRet (w : World) (l k : List (Nat → Int)) (e : Ending) (w' : World) : Prop := ∃ left R err, LeanOf l left ∧ LessGo k left R err ∧ PairRet w R err e w'
def LessRet2 (w : World) (l k : List (Nat → Int)) (e : Ending) (w' : World) : Prop :=
  (sndL l && sndL k) = false ∧ PairRet w [] 2 e w' ∨ (sndL l && sndL k) = true ∧ LesRet w l k e w'
set_option maxHeartbeats 1000000 in
theorem sless_form (p q : Option Addr) (cp cq : Nat) (l k : List (Nat → Int)) (hlen : l.length ≤ 1000000) (hlen' : k.length ≤ 1000000) (hw : WfL l) (hw' : WfL k) (w : World) (hl : Lies (.slice p l.length cp) l w) (hk : Lies (.slice q k.length cq) k w) (ht : Tab w) (hz : 0 < w.heap.size) (hs : (sndL l && sndL k) = false) :
    Calls Tryd.prog 17 #[.slice p l.length cp, .slice q k.length cq] w (PairRet w [] 2) := by
  have H1 := Lib.hid (ssound_any _ l hlen hw w hl ht hz)
  have H2 := Lib.hid (fun (W : World) (hb : Below w.heap.size w W) => ssound_any _ k hlen' hw' W (hk.below hb) ((Env.start ht hz).pred W hb).1 ((Env.start ht hz).pred W hb).2)
  clear hl hk hw hw' ht
  cases h1 : sndL l
  · rw [h1] at H1
    go_enter Tryd.func17, Tryd.ntmps17
    go_wp2_with (go_at_call 10; refine H1.out.mono ?_; rintro e w1 ⟨rfl, hw1⟩)
    go_ret2
    exact ⟨_, rfl, Owns.nil _ _, hw1⟩
  · rw [h1, Bool.true_and] at hs
    rw [h1] at H1
    rw [hs] at H2
    clear hs h1
    go_enter Tryd.func17, Tryd.ntmps17
    go_wp2_with (first | (go_at_call 10; refine H1.out.mono ?_; rintro e w1 ⟨rfl, hw1⟩; clear H1) | (go_at_call 10; refine (H2.out _ hw1).mono ?_; rintro e w2 ⟨rfl, hw2⟩))
    go_ret2
    exact ⟨_, rfl, Owns.nil _ _, hw1.trans (hw2.mono hw1.size)⟩
set_option maxHeartbeats 4000000 in
set_option maxRecDepth 100000 in
theorem sless_yes (p q : Option Addr) (cp cq : Nat) (l k : List (Nat → Int)) (hlen : l.length ≤ 64) (hlen' : k.length ≤ 64) (hw : WfL l) (hw' : WfL k) (w : World) (hl : Lies (.slice p l.length cp) l w) (hk : Lies (.slice q k.length cq) k w) (ht : Tab w) (hz : 0 < w.heap.size) (h1 : sndL l = true) (h2 : sndL k = true) :
    Calls Tryd.prog 17 #[.slice p l.length cp, .slice q k.length cq] w (LesRet w l k) := by
  have H1 := Lib.hid (ssound_any _ l (by omega) hw w hl ht hz)
  have H2 := Lib.hid (fun (W : World) (hb : Below w.heap.size w W) => ssound_any _ k (by omega) hw' W (hk.below hb) ((Env.start ht hz).pred W hb).1 ((Env.start ht hz).pred W hb).2)
  rw [h1] at H1
  rw [h2] at H2
  have H3 := Lib.hid (fun (W : World) (hb : Below w.heap.size w W) => lean_any _ l (by omega) hw W (hl.below hb) ((Env.start ht hz).pred W hb).1 ((Env.start ht hz).pred W hb).2)
  have HE := Lib.hid (Env.start ht hz)
  have HK := Lib.hid hk
  have HW := Lib.hid hw
  have HW' := Lib.hid hw'
  clear hl hk hw hw' ht h1 h2
  go_enter Tryd.func17, Tryd.ntmps17
  go_upto_region 3 with (first | (go_at_call 10; refine H1.out.mono ?_; rintro e w1 ⟨rfl, hw1⟩; clear H1) | (go_at_call 10; refine (H2.out _ hw1).mono ?_; rintro e w2 ⟨rfl, hw2⟩))
  have HB := Lib.hid (hw1.trans (hw2.mono hw1.size))
  clear hw1 hw2 H2
  go_upto_region 4 with (go_at_call 8; refine (H3.out _ HB.out).mono ?_; rintro e w3 ⟨L0, v0, hp, hs, rfl, ho, hb⟩)
  obtain ⟨left0, hL0⟩ : ∃ left0, left0 = leanGo l.length L0 [] := ⟨_, rfl⟩
  have HL0 := Lib.hid (show LeanOf l left0 from ⟨L0, hp, hs, hL0⟩)
  rw [← hL0] at ho
  have HO := Lib.hid (ho.mono HB.out.size)
  have HB3 := Lib.hid (HB.out.trans (hb.mono HB.out.size))
  clear hp hs ho hb hL0 H3 HB
  have hl0 : left0.length ≤ 64 := Nat.le_trans HL0.out.len hlen
  have hw0 : WfL left0 := fun x hx => HW.out x (HL0.out.sub x hx).1
  have HW0 := Lib.hid hw0
  clear hw0
  go_wp2
  go_loopg [25, 6] k.length (fun kk i v wr => ∃ (r : Nat) (left : List (Nat → Int)), r + kk = k.length ∧ i = .int .i64 r ∧ (∀ R err, LessGo (k.drop r) left R err → LessGo k left0 R err) ∧ left.length ≤ 64 ∧ WfL left ∧ Owns w.heap.size v left wr ∧ Below w.heap.size w wr)
  case atStart => exact ⟨0, left0, by omega, rfl, fun R err h => h, hl0, HW0.out, HO.out, HB3.out⟩
  case round =>
    clear HO HB3 HW0 hl0
    obtain ⟨r, left, hr, rfl, hG, hll, hwl, hO, hB⟩ := hrel
    have HG := Lib.hid hG
    have HWl := Lib.hid hwl
    have HO := Lib.hid hO
    have HB := Lib.hid hB
    obtain ⟨pv, cv, rfl⟩ := hO.form
    clear hO hB hwl hG
    by_cases hlt : r < k.length
    · have hltI : (r : Int) < (k.length : Int) := by omega
      obtain ⟨b, o, rfl, hrg⟩ := (HK.out.below HB.out).at hlt
      have HR := Lib.hid hrg
      clear hrg
      have HS := Lib.hid (And.intro (drop_nth k hlt) (HW'.out.nth hlt))
      generalize nth k r = d at *
      have R0 := Lib.hid (Blk.new wr (cc d) 30)
      have HF := Lib.hid (show FstAt w (wr.alloc (.cells (cc d) 30)).heap.size (.slice pv left.length cv) left (.slice none 0 0) (pieces (left.take 0) d) (wr.alloc (.cells (cc d) 30)) from
        ⟨HO.out.below (below1 _ _), fun kk hk => (World.ownsRow.lt (HO.out.below (below1 _ _)) kk hk).2, Owns.nil _ _, Nat.le_refl _, (HB.out.alloc HB.out.size _).size, HB.out.alloc HB.out.size _⟩)
      have hBN : wr.heap.size < (wr.alloc (.cells (cc d) 30)).heap.size := by simp
      clear HO HB
      go_upto_region 7 with (first
        | (refine wpList_load_mid rfl 30 (.tmp 27) rfl b (o + r * 24) rfl (cl d) _ HR.out Tryd.underlying30 rfl infoCube ?_)
        | (refine wpList_store_row rfl 30 (.tmp 8) (.tmp 28) rfl wr.heap.size (cc d) rfl rfl 30 _ (heap_alloc_new _ _) (by kernel_rfl) rfl (cc_one _) ?_; rw [World.setRow_alloc_new]))
      clear HR
      generalize (wr.alloc (.cells (cc d) 30)).heap.size = N at *
      generalize wr.alloc (.cells (cc d) 30) = W1 at *
      generalize wr.heap.size = B at *
      go_wp2
      go_loopg [31, 9] left.length (fun kk i out wr => ∃ (s : Nat), s + kk = left.length ∧ i = .int .i64 s ∧ FstAt w N (.slice pv left.length cv) left out (pieces (left.take s) d) wr ∧ Blk B (cc d) 30 wr)
      case atStart => exact ⟨0, by omega, rfl, HF.out, R0.out⟩
      case round =>
        clear HF R0
        obtain ⟨s, hs, rfl, hF, hR⟩ := hrel
        have HF := Lib.hid hF
        have R0 := Lib.hid hR
        clear hF hR
        by_cases hlt2 : s < left.length
        · have hltI2 : (s : Int) < (left.length : Int) := by omega
          obtain ⟨b2, o2, rfl, hrg⟩ := HF.out.row.lies.at hlt2
          have HR := Lib.hid hrg
          clear hrg
          have HS2 := Lib.hid (And.intro (pieces_snoc left d hlt2) (HWl.out.nth hlt2))
          generalize nth left s = c at *
          have RC := Lib.hid (Blk.new wr (cc c) 30)
          have HF1 := Lib.hid (HF.out.below (below1 wr (.cells (cc c) 30)))
          have R1 := Lib.hid (R0.out.old (.cells (cc c) 30))
          have hE1 := HE.out.below HF1.out.kept
          have HC := Lib.hid (cless_any c d HS2.out.2 HS.out.2 _ hE1.tab hE1.lt)
          have hlc := lessL_len c d
          have hpl : (pieces (left.take s) d).length + (lessL c d).length ≤ 1000000 := by
            have a := pieces_len (left.take s) d
            have b : (left.take s).length ≤ 64 := by rw [List.length_take]; omega
            have := Nat.mul_le_mul_right 768 b
            omega
          have HE2 := Lib.hid HS2.out.1
          clear hE1 HF R0 hlc HS2
          generalize lessL c d = X at *
          go_upto_region 11 with (first
            | (refine wpList_load_mid rfl 30 (.tmp 33) rfl b2 (o2 + s * 24) rfl (cl c) _ HR.out Tryd.underlying30 rfl infoCube ?_)
            | (refine wpList_store_row rfl 30 (.tmp 11) (.tmp 34) rfl wr.heap.size (cc c) rfl rfl 30 _ (heap_alloc_new _ _) (by kernel_rfl) rfl (cc_one _) ?_; rw [World.setRow_alloc_new]))
          clear HR
          generalize hW1 : wr.alloc (.cells (cc c) 30) = W2 at *
          clear hW1
          generalize wr.heap.size = BC at *
          go_upto_region 12 with (first
            | (refine wpList_load_row rfl 30 (.tmp 11) rfl BC rfl 30 (cc c) (0, 0) _ RC.out Tryd.underlying30 rfl (by kernel_rfl) ?_)
            | (refine wpList_load_row rfl 30 (.tmp 8) rfl B rfl 30 (cc d) (0, 0) _ R1.out Tryd.underlying30 rfl (by kernel_rfl) ?_)
            | (go_at_call 33; refine HC.out.mono ?_; rintro e w4 ⟨v4, rfl, ho4, hb4⟩; have HF2 := Lib.hid (HF1.out.below hb4); have R2 := Lib.hid (R1.out.below hb4); have hNw := (HF1.out.below hb4).2.2.2.1; clear HC RC R1 HF1)
            | (refine appendL rfl (.tmp 35) (.tmp 38) rfl N _ (pieces (left.take s) d) X rfl HF2.out.owns _ rfl ho4.lies hNw hpl (fun v' w' ho hg _ => ?_)))
          have HF3 := Lib.hid (HF2.out.grown ho hg)
          have R3 := Lib.hid (show Blk B (cc d) 30 w' from (hg.block B R2.out.lt (fun e => by have := HF2.out.owns.ge B e.symm; omega)).trans R2.out)
          clear ho hg HF2 R2 ho4 hb4 hNw
          go_wp2
          go_roundg (left.length - (s + 1))
          case measure => omega
          case rel => exact ⟨s + 1, by omega, by go_num, by rw [HE2.out]; exact HF3.out, R3.out⟩
        · have hltI2 : ¬ (s : Int) < (left.length : Int) := by omega
          have hF := HF.out
          rw [List.take_of_length_le (by omega)] at hF
          have HF2 := Lib.hid hF
          have hpl : (pieces left d).length ≤ 1000000 := by
            have a := pieces_len left d
            have := Nat.mul_le_mul_right 768 hll
            omega
          have hE1 := HE.out.below hF.kept
          have HP := Lib.hid (leanFits_any _ (pieces left d) hpl (pieces_wf HWl.out HS.out.2) wr hF.owns.lies hE1.tab hE1.lt)
          have HPW := Lib.hid (pieces_wf HWl.out HS.out.2)
          have HG2 := Lib.hid (show ∀ R err, LessGo (d :: k.drop (r + 1)) left R err → LessGo k left0 R err from by rw [← HS.out.1]; exact HG.out)
          clear hF HF R0 hE1 HG
          go_upto_region 15 with (go_at_call 32; refine HP.out.mono ?_; rintro e w5 ⟨R, err, hf, v5, rfl, ho5, hb5⟩)
          have HB5 := Lib.hid (HF2.out.kept.trans (hb5.mono HF2.out.kept.size))
          have HO5 := Lib.hid (ho5.mono HF2.out.kept.size)
          clear ho5 hb5 HP HF2
          rcases hf.err with ⟨rfl, rfl⟩ | rfl
          · have HD := Lib.hid (HG2.out [] 3 (LessGo.full hf))
            clear hf HG2
            go_wp2
            go_ret2
            exact ⟨left0, [], 3, HL0.out, HD.out, _, rfl, Owns.nil _ _, HB5.out⟩
          · have hwR : WfL R := fun x hx => HPW.out x (List.mem_filter.1 (hf.sub x hx)).1
            have HD := Lib.hid (show ∀ R' err, LessGo (k.drop (r + 1)) R R' err → LessGo k left0 R' err from fun R' err h => HG2.out R' err (LessGo.step hf h))
            have hRl := hf.len
            have HWR := Lib.hid hwR
            clear hf HG2 hwR
            go_wp2
            go_roundg (k.length - (r + 1))
            case measure => omega
            case rel => exact ⟨r + 1, R, by omega, by go_num, HD.out, hRl, HWR.out, HO5.out, HB5.out⟩
    · have hltI : ¬ (r : Int) < (k.length : Int) := by omega
      have HD := Lib.hid (HG.out left 0 (by rw [List.drop_eq_nil_of_le (by omega)]; exact LessGo.done left))
      go_wp2
      go_ret2
      exact ⟨left0, left, 0, HL0.out, HD.out, _, rfl, HO.out, HB.out⟩
theorem sless_any (v u : Value) (l k : List (Nat → Int)) (hlen : l.length ≤ 1000000) (hlen' : k.length ≤ 1000000) (hw : WfL l) (hw' : WfL k) (w : World) (hl : Lies v l w) (hk : Lies u k w) (ht : Tab w) (hz : 0 < w.heap.size) :
    Calls Tryd.prog 17 #[v, u] w (LessRet2 w l k) := by
  obtain ⟨p, cp, rfl⟩ := hl.form
  obtain ⟨q, cq, rfl⟩ := hk.form
  cases h : (sndL l && sndL k)
  · exact (sless_form p q cp cq l k hlen hlen' hw hw' w hl hk ht hz h).mono fun e w' hp => .inl ⟨h, hp⟩
  · obtain ⟨h1, h2⟩ := Bool.and_eq_true_iff.1 h
    have a : l.length ≤ 64 := by unfold sndL at h1; simpa using (Bool.and_eq_true_iff.1 h1).1
    have b : k.length ≤ 64 := by unfold sndL at h2; simpa using (Bool.and_eq_true_iff.1 h2).1
    exact (sless_yes p q cp cq l k a b hw hw' w hl hk ht hz h1 h2).mono fun e w' hp => .inr ⟨h, hp⟩
/-- what Within returns: no error exactly if Less has none, and then whether nothing is left -/
def WithinOf (l k : List (Nat → Int)) (y : Bool) (err : Int) : Prop :=
  (sndL l && sndL k) = false ∧ y = false ∧ err = 2 ∨ (sndL l && sndL k) = true ∧ ∃ left R, LeanOf l left ∧ LessGo k left R err ∧ y = (err == 0 && R.length == 0)
def WithinRet (w : World) (l k : List (Nat → Int)) (e : Ending) (w' : World) : Prop := ∃ y err, WithinOf l k y err ∧ e = .returned (.tuple #[.bool y, .int .i64 err]) ∧ Below w.heap.size w w'
set_option maxHeartbeats 1000000 in
theorem swithin_any (v u : Value) (l k : List (Nat → Int)) (hlen : l.length ≤ 1000000) (hlen' : k.length ≤ 1000000) (hw : WfL l) (hw' : WfL k) (w : World) (hl : Lies v l w) (hk : Lies u k w) (ht : Tab w) (hz : 0 < w.heap.size) :
    Calls Tryd.prog 18 #[v, u] w (WithinRet w l k) := by
  have H1 := Lib.hid (sless_any v u l k hlen hlen' hw hw' w hl hk ht hz)
  obtain ⟨p, cp, rfl⟩ := hl.form
  obtain ⟨q, cq, rfl⟩ := hk.form
  clear hl hk hw hw' ht
  have HY : Hid (Calls Tryd.prog 17 #[.slice p l.length cp, .slice q k.length cq] w fun e w' => ∃ v R err, (∀ y, y = (err == 0 && R.length == 0) → WithinOf l k y err) ∧ e = .returned (.tuple #[v, .int .i64 err]) ∧ Owns w.heap.size v R w' ∧ Below w.heap.size w w') := by
    refine H1.out.mono ?_
    rintro e w1 (⟨h, v, rfl, ho, hb⟩ | ⟨h, left, R, err, h1, h2, v, rfl, ho, hb⟩)
    · exact ⟨v, [], 2, fun y hy => .inl ⟨h, by rw [hy]; rfl, rfl⟩, rfl, ho, hb⟩
    · exact ⟨v, R, err, fun y hy => .inr ⟨h, left, R, h1, h2, hy⟩, rfl, ho, hb⟩
  clear H1
  go_enter Tryd.func18, Tryd.ntmps18
  go_upto_region 2 with (go_at_call 17; refine HY.out.mono ?_; rintro e w1 ⟨v, R, err, hy, rfl, ho, hb⟩)
  obtain ⟨pr, cr, rfl⟩ := ho.form
  have HA := Lib.hid hy
  have HB := Lib.hid hb
  clear hy ho hb HY
  cases h : (err == 0)
  · have HC := Lib.hid (HA.out false (by rw [h]; rfl))
    clear HA
    go_wp2
    go_ret2
    exact ⟨false, err, HC.out, rfl, HB.out⟩
  · have HC := Lib.hid (HA.out _ rfl)
    rw [h, Bool.true_and] at HC
    clear HA
    cases hn : (R.length == 0)
    · rw [hn] at HC
      have hnI : ((R.length : Int) == 0) = false := by simpa using hn
      go_wp2
      go_ret2
      exact ⟨false, err, HC.out, rfl, HB.out⟩
    · rw [hn] at HC
      have hnI : ((R.length : Int) == 0) = true := by simpa using hn
      go_wp2
      go_ret2
      exact ⟨true, err, HC.out, rfl, HB.out⟩
end Go.Proofs.YtamjaohoicedfaaDoor
