/-
  The walk of the law SpaceKeeps.
-/
import Derived.Test.YtamjaohoicedfaaDoorSpaceLaw
import Derived.Test.YtamjaohoicedfaaDoorSpaceRef
namespace Go.Proofs.YtamjaohoicedfaaDoor
open Go.RowKit

/-- a slice whose cubes may be written, in memory from a block on -/
def RowS (N : Nat) (v : Value) (n : Nat) (W : World) : Prop :=
  n = 0 ∨ ∃ g cap cur, v = .slice (some ⟨g, 0, none⟩) n cap ∧ N ≤ g ∧ n ≤ cap ∧ W.heap[g]? = some (.cells cur 30 (0, 0)) ∧ cur.size = cap * 24
theorem Owns.rowS {base : Nat} {v : Value} {l : List (Nat → Int)} {W : World} (h : Owns base v l W) : RowS base v l.length W := by
  rcases h.2 with ⟨_, h0⟩ | ⟨g, cap, cur, h1, h2, h3, h4, _, h6, _⟩
  · exact .inl h0
  · exact .inr ⟨g, cap, cur, h1, h2, h4, h3, h6⟩
theorem RowS.mono {N N' : Nat} {v : Value} {n : Nat} {W : World} (h : RowS N v n W) (hN : N' ≤ N) : RowS N' v n W := by
  rcases h with h | ⟨g, cap, cur, h1, h2, h3⟩
  · exact .inl h
  · exact .inr ⟨g, cap, cur, h1, by omega, h3⟩
theorem RowS.below {N : Nat} {v : Value} {n : Nat} {W W' : World} (h : RowS N v n W) (hb : Below W.heap.size W W') : RowS N v n W' := by
  rcases h with h | ⟨g, cap, cur, h1, h2, h3, h4, h5⟩
  · exact .inl h
  · exact .inr ⟨g, cap, cur, h1, h2, h3, (hb.block g (Array.getElem?_eq_some_iff.1 h4).1).trans h4, h5⟩
theorem RowS.setCell {N : Nat} {v : Value} {n : Nat} {W : World} (h : RowS N v n W) (g' k : Nat) (x : Value) : RowS N v n (W.setCell ⟨g', k, none⟩ x) := by
  rcases h with h | ⟨g, cap, cur, h1, h2, h3, h4, h5⟩
  · exact .inl h
  · by_cases e : g = g'
    · subst e
      refine .inr ⟨g, cap, cur.setIfInBounds k x, h1, h2, h3, ?_, by simpa using h5⟩
      simp only [World.setCell, Array.getElem?_modify]
      rw [if_pos trivial, h4]
      rfl
    · exact .inr ⟨g, cap, cur, h1, h2, h3, (heap_setCell_other W _ g _ e).trans h4, h5⟩
theorem RowS.at {N : Nat} {p : Option Addr} {cap n : Nat} {W : World} (h : RowS N (.slice p n cap) n W) {r : Nat} (hr : r < n) : ∃ g, p = some ⟨g, 0, none⟩ ∧ N ≤ g ∧ (∃ u, W.cell? ⟨g, r * 24 + 12, none⟩ = some u) ∧ W.frozen? ⟨g, r * 24 + 12, none⟩ = false := by
  rcases h with h | ⟨g, cap', cur, h1, h2, h3, h4, h5⟩
  · omega
  · injection h1 with h1 _ hc
    refine ⟨g, h1, h2, ?_, frozen_of_row _ g _ _ _ h4⟩
    have hlt : r * 24 + 12 < cur.size := by rw [h5]; have := Nat.mul_le_mul_right 24 (show r + 1 ≤ cap' by omega); omega
    exact ⟨cur[r * 24 + 12], by rw [cell_of_row W g _ cur _ _ h4]; exact Array.getElem?_eq_getElem hlt⟩
set_option maxHeartbeats 1000000 in
set_option maxRecDepth 100000 in
theorem spaceKeeps_many (p q : Option Addr) (cp cq n m : Nat) (w : World) (ht : Tab w) (hz : 0 < w.heap.size) (h : Many n m = true) :
    Calls Tryd.prog 6 #[.slice p n cp, .slice q m cq] w fun e w' => e = .returned (.bool true) ∧ Below w.heap.size w w' := by
  have HF := Lib.hid (fun (p : Option Addr) (n c : Nat) => few_any p n c w)
  have HA := Lib.hid (sanswers w ht hz)
  clear ht
  unfold Many at h
  by_cases h1 : n ≤ 8
  · have h2 : ¬ m ≤ 8 := by simpa [h1] using h
    have e1 : decide (n ≤ 8) = true := decide_eq_true h1
    have e2 : decide (m ≤ 8) = false := decide_eq_false h2
    clear h h1 h2
    have F1 := Lib.hid (HF.out p n cp)
    have F2 := Lib.hid (HF.out q m cq)
    rw [e1] at F1
    rw [e2] at F2
    go_enter Tryd.func6, Tryd.ntmps6
    go_wp2_with (first
      | (go_at_call 15; refine F1.out.mono ?_; rintro e w' ⟨rfl, rfl⟩; clear F1)
      | (go_at_call 15; refine F2.out.mono ?_; rintro e w' ⟨rfl, rfl⟩)
      | (go_at_call 7; refine HA.out.mono ?_; rintro e w1 ⟨rfl, hw1⟩))
    go_ret
    exact ⟨rfl, hw1⟩
  · have e1 : decide (n ≤ 8) = false := decide_eq_false h1
    have F1 := Lib.hid (HF.out p n cp)
    rw [e1] at F1
    clear h h1
    go_enter Tryd.func6, Tryd.ntmps6
    go_wp2_with (first
      | (go_at_call 15; refine F1.out.mono ?_; rintro e w' ⟨rfl, rfl⟩)
      | (go_at_call 7; refine HA.out.mono ?_; rintro e w1 ⟨rfl, hw1⟩))
    go_ret
    exact ⟨rfl, hw1⟩
set_option maxHeartbeats 4000000 in
set_option maxRecDepth 100000 in
theorem spaceKeeps_few (p q : Option Addr) (cp cq : Nat) (l k : List (Nat → Int)) (hlen : l.length ≤ 8) (hlen' : k.length ≤ 8) (hw : WfL l) (hw' : WfL k) (w : World) (hl : Lies (.slice p l.length cp) l w) (hk : Lies (.slice q k.length cq) k w) (ht : Tab w) (hz : 0 < w.heap.size) :
    Calls Tryd.prog 6 #[.slice p l.length cp, .slice q k.length cq] w fun e w' => e = .returned (.bool true) ∧ Below w.heap.size w w' := by
  have F1 := Lib.hid (few_any p l.length cp w)
  have F2 := Lib.hid (few_any q k.length cq w)
  rw [decide_eq_true hlen] at F1
  rw [decide_eq_true hlen'] at F2
  have hE := Env.start ht hz
  have HA := Lib.hid (fun (W : World) (hb : Below w.heap.size w W) => sanswers W (hE.pred W hb).1 (hE.pred W hb).2)
  have HM := Lib.hid (fun (v u : Value) (W : World) (lv : Lies v l W) (lu : Lies u k W) (hb : Below w.heap.size w W) => smeet_of v u l k (by omega) (by omega) hw hw' W lv lu (hE.pred W hb).1 (hE.pred W hb).2)
  have HL := Lib.hid (fun (v u : Value) (W : World) (lv : Lies v l W) (lu : Lies u k W) (hb : Below w.heap.size w W) => sless_of v u l k (by omega) (by omega) hw hw' W lv lu (hE.pred W hb).1 (hE.pred W hb).2)
  have HN := Lib.hid (fun (v : Value) (W : World) (lv : Lies v l W) (hb : Below w.heap.size w W) => lean_any v l (by omega) hw W lv (hE.pred W hb).1 (hE.pred W hb).2)
  have HS1 := Lib.hid (fun (v u : Value) (W : World) (lv : Lies v l W) (lu : Lies u l W) => sameL_any v u l l (by omega) rfl (fun i _ => cEq_refl _) W lv lu)
  have HS2 := Lib.hid (fun (v u : Value) (W : World) (lv : Lies v k W) (lu : Lies u k W) => sameL_any v u k k (by omega) rfl (fun i _ => cEq_refl _) W lv lu)
  have HAr := Lib.hid (And.intro hl hk)
  have HWf := Lib.hid (And.intro hw hw')
  have A1 := Lib.hid (hl.below (below1 w (.cells #[] 30)))
  clear hl hk hw hw' ht hE
  go_enter Tryd.func6, Tryd.ntmps6
  go_upto_region 3 with (first
    | (go_at_call 15; refine F1.out.mono ?_; rintro e w' ⟨rfl, rfl⟩; clear F1)
    | (go_at_call 15; refine F2.out.mono ?_; rintro e w' ⟨rfl, rfl⟩))
  clear F2
  go_upto_region 4 with (first
    | (refine buildNone rfl rfl ?_)
    | (refine appendL rfl (.tmp 24) (.tmp 25) rfl w.heap.size _ [] l rfl (Owns.built w _ (Nat.le_refl _)) _ rfl A1.out (by simp) (by simp; omega) (fun v5 w5 ho5 hg5 _ => ?_); have hb5 := belowOwn (below1 w (.cells #[] 30)) (Owns.built w _ (Nat.le_refl _)) (Nat.le_refl _) hg5; have H5 := Lib.hid (And.intro (show Lies v5 l w5 from ho5.lies) hb5); have A5 := Lib.hid ((HAr.out.2.below hb5).below (below1 w5 (.cells #[] 30))); clear ho5 hg5 hb5)
    | (refine appendL rfl (.tmp 27) (.tmp 28) rfl w5.heap.size _ [] k rfl (Owns.built w5 _ (Nat.le_refl _)) _ rfl A5.out (by simp) (by simp; omega) (fun v6 w6 ho6 hg6 _ => ?_); have hb6 := belowOwn (below1 w5 (.cells #[] 30)) (Owns.built w5 _ (Nat.le_refl _)) (Nat.le_refl _) hg6; have H6 := Lib.hid (And.intro (show Lies v6 k w6 from ho6.lies) hb6); clear ho6 hg6 hb6))
  have HX := Lib.hid (H5.out.1.below H6.out.2)
  have HY := Lib.hid H6.out.1
  have HB := Lib.hid (H5.out.2.trans (H6.out.2.mono H5.out.2.size))
  clear H5 H6 A1 A5
  obtain ⟨px, cx, rfl⟩ := HX.out.form
  obtain ⟨py, cy, rfl⟩ := HY.out.form
  go_upto_region 5 with (go_at_call 8; refine (HN.out _ _ HX.out HB.out).mono ?_; rintro e w7 ⟨L7, v7, hp7, _, rfl, ho7, hb7⟩)
  obtain ⟨n7, hn7⟩ : ∃ n7, n7 = leanGo l.length L7 [] := ⟨_, rfl⟩
  have hnl : n7.length ≤ 8 := by
    have a := leanGo_len l.length L7 []
    have b := hp7.length_eq
    have c := List.length_filter_le csnd l
    rw [hn7]
    simp at a
    omega
  rw [← hn7] at ho7
  clear hn7 hp7
  obtain ⟨p7, c7, rfl⟩ := ho7.form
  have R7 := Lib.hid ho7.rowS
  have B7 := Lib.hid hb7
  clear ho7 hb7 HN
  generalize n7.length = n at *
  go_wp2
  go_loopg [8] n (fun kk i wr => ∃ r : Nat, r + kk = n ∧ i = .int .i64 r ∧ RowS w6.heap.size (.slice p7 n c7) n wr ∧ Below w6.heap.size w6 wr)
  case atStart => exact ⟨0, by omega, rfl, R7.out, B7.out⟩
  case round =>
    clear R7 B7
    obtain ⟨r, hr, rfl, hR, hB⟩ := hrel
    have HR := Lib.hid hR
    have HB7 := Lib.hid hB
    clear hR hB
    by_cases hlt : r < n
    · have hltI : (r : Int) < (n : Int) := by omega
      obtain ⟨g, rfl, hN, ⟨u, hcell⟩, hfr⟩ := HR.out.at hlt
      have HN := Lib.hid hN
      clear hN
      go_wp2
      go_roundg (n - (r + 1))
      case measure => omega
      case rel => exact ⟨r + 1, by omega, by go_num, HR.out.setCell _ _ _, HB7.out.setCell HN.out _⟩
    · have hltI : ¬ (r : Int) < (n : Int) := by omega
      have HBw := Lib.hid (HB.out.trans (HB7.out.mono HB.out.size))
      have HXw := Lib.hid (HX.out.below HB7.out)
      have HYw := Lib.hid (HY.out.below HB7.out)
      clear HR
      go_upto_region 10 with (go_at_call 16; refine (HM.out _ _ _ HXw.out HYw.out HBw.out).mono ?_; rintro e w8 ⟨Rm, em, hmo, vm, rfl, ho8, hb8⟩)
      have HBw8 := Lib.hid (HBw.out.trans (hb8.mono HBw.out.size))
      have HXw8 := Lib.hid (HXw.out.below hb8)
      have HYw8 := Lib.hid (HYw.out.below hb8)
      go_upto_region 11 with (go_at_call 17; refine (HL.out _ _ _ HXw8.out HYw8.out HBw8.out).mono ?_; rintro e w9 ⟨Rl, el, hlo, vl, rfl, ho9, hb9⟩)
      have nm8 : Rm.length ≤ 64 := (hmo.wf HWf.out.1 HWf.out.2).2.2
      have nl9 : Rl.length ≤ 64 := (hlo.wf HWf.out.1 HWf.out.2).2.2
      have B68 := HB7.out.trans (hb8.mono HB7.out.size)
      have B9 := Lib.hid (B68.trans (hb9.mono B68.size))
      have R8 := Lib.hid ((ho8.rowS.mono HB7.out.size).below hb9)
      have R9 := Lib.hid (ho9.rowS.mono B68.size)
      obtain ⟨pm, cm, rfl⟩ := ho8.form
      obtain ⟨pl, cl', rfl⟩ := ho9.form
      clear hmo hlo ho8 ho9 hb8 hb9 B68 HBw HXw HYw HBw8 HXw8 HYw8 HM HL HB7
      generalize Rm.length = nm at *
      generalize Rl.length = nl at *
      go_wp2
      go_loopg [13] nm (fun kk i wr => ∃ r : Nat, r + kk = nm ∧ i = .int .i64 r ∧ RowS w6.heap.size (.slice pm nm cm) nm wr ∧ RowS w6.heap.size (.slice pl nl cl') nl wr ∧ Below w6.heap.size w6 wr)
      case atStart => exact ⟨0, by omega, rfl, R8.out, R9.out, B9.out⟩
      case round =>
        clear R8 R9 B9
        obtain ⟨r, hr, rfl, hR, hR', hB⟩ := hrel
        have HR := Lib.hid hR
        have HR' := Lib.hid hR'
        have HB7 := Lib.hid hB
        clear hR hR' hB
        by_cases hlt : r < nm
        · have hltI : (r : Int) < (nm : Int) := by omega
          obtain ⟨g, rfl, hN, ⟨u, hcell⟩, hfr⟩ := HR.out.at hlt
          have HN := Lib.hid hN
          clear hN
          go_wp2
          go_roundg (nm - (r + 1))
          case measure => omega
          case rel => exact ⟨r + 1, by omega, by go_num, HR.out.setCell _ _ _, HR'.out.setCell _ _ _, HB7.out.setCell HN.out _⟩
        · have hltI : ¬ (r : Int) < (nm : Int) := by omega
          have R9 := Lib.hid HR'.out
          have B9 := Lib.hid HB7.out
          clear HR HR' HB7
          go_wp2
          go_loopg [14] nl (fun kk i wr => ∃ r : Nat, r + kk = nl ∧ i = .int .i64 r ∧ RowS w6.heap.size (.slice pl nl cl') nl wr ∧ Below w6.heap.size w6 wr)
          case atStart => exact ⟨0, by omega, rfl, R9.out, B9.out⟩
          case round =>
            clear R9 B9
            obtain ⟨r, hr, rfl, hR, hB⟩ := hrel
            have HR := Lib.hid hR
            have HB7 := Lib.hid hB
            clear hR hB
            by_cases hlt : r < nl
            · have hltI : (r : Int) < (nl : Int) := by omega
              obtain ⟨g, rfl, hN, ⟨u, hcell⟩, hfr⟩ := HR.out.at hlt
              have HN := Lib.hid hN
              clear hN
              go_wp2
              go_roundg (nl - (r + 1))
              case measure => omega
              case rel => exact ⟨r + 1, by omega, by go_num, HR.out.setCell _ _ _, HB7.out.setCell HN.out _⟩
            · have hltI : ¬ (r : Int) < (nl : Int) := by omega
              have HBw := Lib.hid (HB.out.trans (HB7.out.mono HB.out.size))
              have HXw := Lib.hid (HX.out.below HB7.out)
              have HYw := Lib.hid (HY.out.below HB7.out)
              have HA2 := Lib.hid (HA.out _ HBw.out)
              clear HR HB7
              go_wp2_with (first
                | (go_at_call 7; refine HA2.out.mono ?_; rintro e wA ⟨rfl, hwA⟩; have HBA := Lib.hid (HBw.out.trans (hwA.mono HBw.out.size)); have HXA := Lib.hid (HXw.out.below hwA); have HYA := Lib.hid (HYw.out.below hwA); clear hwA HA2)
                | (go_at_call 13; refine (HS1.out _ _ _ HXA.out (HAr.out.1.below HBA.out)).mono ?_; rintro e wC ⟨rfl, hwC⟩; have HBC := Lib.hid (HBA.out.trans (hwC.mono HBA.out.size)); have HYC := Lib.hid (HYA.out.below hwC); clear hwC HS1)
                | (go_at_call 13; refine (HS2.out _ _ _ HYC.out (HAr.out.2.below HBC.out)).mono ?_; rintro e wD ⟨rfl, hwD⟩))
              go_ret
              exact ⟨rfl, HBC.out.trans (hwD.mono HBC.out.size)⟩
theorem spaceKeeps_any (w : World) (ht : Tab w) (hz : 0 < w.heap.size) (v : Value) (l : List (Nat → Int)) (hl : Lies v l w) (hw : WfL l) (u : Value) (k : List (Nat → Int)) (hk : Lies u k w) (hw' : WfL k) :
    Calls Tryd.prog 6 #[v, u] w fun e w' => e = .returned (.bool true) ∧ Below w.heap.size w w' := by
  obtain ⟨p, cp, rfl⟩ := hl.form
  obtain ⟨q, cq, rfl⟩ := hk.form
  cases h : Many l.length k.length
  · unfold Many at h
    simp at h
    exact spaceKeeps_few p q cp cq l k h.1 h.2 hw hw' w hl hk ht hz
  · exact spaceKeeps_many p q cp cq _ _ w ht hz h
end Go.Proofs.YtamjaohoicedfaaDoor
