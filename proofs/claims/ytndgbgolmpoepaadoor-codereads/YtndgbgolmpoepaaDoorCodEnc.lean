/-
  The walk of Encode of package code.
-/
import Derived.Test.YtndgbgolmpoepaaDoorCodWrb
import Derived.Test.YtndgbgolmpoepaaDoorCodSnd
namespace Go.Proofs.YtndgbgolmpoepaaDoor
set_option maxRecDepth 20000
open Go.RowKit

section
variable {x : Ms}
theorem sndk_1 (hs : sndMs x = true) (hk : x.kind = 1) : sndM x.mod = true := by
  have h := snd_rest hs
  rw [if_pos hk] at h
  simp only [Bool.and_eq_true] at h
  exact h.1
theorem sndk_6 (hs : sndMs x = true) (hk : x.kind = 6) : 1 ≤ x.e ∧ x.e ≤ 17 := by
  have h := snd_rest hs
  rw [if_neg (by omega), if_pos hk] at h
  simp only [Bool.and_eq_true, decide_eq_true_eq] at h
  exact h.2.1
theorem sndk_8 (hs : sndMs x = true) (hk : x.kind = 8) : 1 ≤ x.port ∧ x.port ≤ 16 := by
  have h := snd_rest hs
  rw [if_neg (by omega), if_neg (by omega), if_pos hk] at h
  simp only [Bool.and_eq_true, decide_eq_true_eq] at h
  exact h.2.2.1
theorem sndk_9 (hs : sndMs x = true) (hk : x.kind = 9 ∨ x.kind = 10) : x.rules.length ≤ 65535 ∧ ∀ u ∈ x.rules, sndR u = true := by
  have h := snd_rest hs
  rw [if_neg (by omega), if_neg (by omega), if_neg (by omega)] at h
  rcases hk with hk | hk
  · rw [if_pos hk] at h
    simp only [Bool.and_eq_true, decide_eq_true_eq, List.all_eq_true] at h
    exact ⟨by omega, h.2.2.2.2⟩
  · rw [if_neg (by omega), if_pos hk] at h
    simp only [Bool.and_eq_true, decide_eq_true_eq] at h
    exact ⟨h.2.2.2.1, ((tabU_iff _).1 h.2.2.2.2).1⟩
end
theorem fitA_of {l : List Ac} (h : sndAL l = true) (hw : WfAL l) : FitA l := by
  have hl := acts_len h
  refine ⟨by omega, fun a ha => act_fit ?_ (hw a ha)⟩
  unfold sndAL at h
  rw [Bool.and_eq_true, List.all_eq_true] at h
  exact h.2 a ha
theorem fitMd_of {m : Mu} (h : sndM m = true) (hw : WfM m) : FitMd m := ⟨mod_fit h hw, fitA_of (snd_mod h).1 hw.a⟩
theorem fitRu_of {u : Ru} (h : sndR u = true) (hw : WfR u) : FitRu u := ⟨rule_fit h hw, fitA_of (snd_rule h).1 hw.a⟩
/-- what Encode answers -/
def encE (x : Ms) : Int := if sndMs x = true then 0 else 2
def encV (x : Ms) : List Int := if sndMs x = true then encMs x else []
def EncRet (w : World) (es : Int) (l : List Int) (e : Ending) (w' : World) : Prop := ∃ v, e = .returned (.tuple #[v, .int .i64 es]) ∧ KOwns KB w.heap.size v l w' ∧ Below w.heap.size w w'
theorem zeroWr : ((Tryd.prog.info? 55).bind (·.zero)).map (·.cells) = some #[Value.slice none 0 0] := by kernel_rfl
/-- a writer made -/
theorem WrS.made {w0 W : World} (hb : Below w0.heap.size w0 W) : WrS w0 W.heap.size [] (W.alloc (.cells #[.slice none 0 0] 55)) :=
  ⟨.slice none 0 0, Blk.new _ _ _, KOwns.nil _ _, hb.trans ((below1 _ _).mono hb.size), hb.size⟩
theorem EncRet.of {w W : World} {b : Nat} {l : List Int} {v : Value} (_ : Blk b #[v] 55 W) (hO : KOwns KB (b + 1) v l W) (hb : Below w.heap.size w W) (hg : w.heap.size ≤ b) : EncRet w 0 l (.returned (.tuple #[v, .int .i64 0])) W :=
  ⟨v, rfl, hO.mono (by omega), hb⟩
set_option maxHeartbeats 2000000 in
set_option maxRecDepth 100000 in
theorem enc_no (g : Gm) (hw : WfMs g.u) (hs : sndMs g.u = false) (w : World) (hi : InG g w) (ht : Tab w) (hz : 0 < w.heap.size) :
    Calls Tryd.prog 11 #[.agg (gca g)] w (EncRet w 2 []) := by
  have R0 := Lib.hid (Blk.new w (gca g) 33)
  have HB := Lib.hid (below1 w (.cells (gca g) 33))
  have HC := Lib.hid (msnd_any g hw _ (hi.below HB.out) (Env.of ht hz HB.out).tab (Env.of ht hz HB.out).lt)
  rw [hs] at HC
  clear hi ht hw hs
  go_enter Tryd.func11, Tryd.ntmps11
  go_wp2_with (first
    | (refine wpList_load_row rfl 33 _ rfl w.heap.size rfl 33 (gca g) (0, 0) _ R0.out Tryd.underlying33 rfl (by rw [gca_size]; exact infoG) ?_)
    | (go_at_call 12; refine HC.out.mono ?_; rintro e w1 ⟨rfl, hw1⟩))
  go_ret2
  exact ⟨_, rfl, KOwns.nil _ _, HB.out.trans (hw1.mono HB.out.size)⟩
set_option maxHeartbeats 8000000 in
set_option maxRecDepth 100000 in
theorem enc_yes (g : Gm) (hw : WfMs g.u) (hs : sndMs g.u = true) (w : World) (hi : InG g w) (ht : Tab w) (hz : 0 < w.heap.size) :
    Calls Tryd.prog 11 #[.agg (gca g)] w (EncRet w 0 (encMs g.u)) := by
  have R0 := Lib.hid (Blk.new w (gca g) 33)
  have HB := Lib.hid (below1 w (.cells (gca g) 33))
  have HC := Lib.hid (msnd_any g hw _ (hi.below HB.out) (Env.of ht hz HB.out).tab (Env.of ht hz HB.out).lt)
  rw [hs] at HC
  have HI := Lib.hid hi
  have HW := Lib.hid hw
  have HK := Lib.hid (show 1 ≤ g.kind ∧ g.kind ≤ 10 from snd_kindR hs)
  have HX := Lib.hid (show 0 ≤ g.txn ∧ g.txn ≤ 4294967295 from snd_txn hs)
  have HSd := Lib.hid hs
  clear hi ht hw hs
  go_enter Tryd.func11, Tryd.ntmps11
  go_upto_region 3 with (first
    | (refine wpList_load_row rfl 33 _ rfl w.heap.size rfl 33 (gca g) (0, 0) _ R0.out Tryd.underlying33 rfl (by rw [gca_size]; exact infoG) ?_)
    | (go_at_call 12; refine HC.out.mono ?_; rintro e w1 ⟨rfl, hw1⟩; refine Hid.out ?_))
  have R1 := Lib.hid (R0.out.below hw1)
  have HB1 := Lib.hid (HB.out.trans (hw1.mono HB.out.size))
  have HL1 := Lib.hid (show w.heap.size < w1.heap.size from R1.out.lt)
  clear hw1 HC R0 HB
  refine Lib.hid ?_
  go_upto_region 4 with fail
  have R2 := Lib.hid (R1.out.old (.cells #[.slice none 0 0] 55))
  have HS2 := Lib.hid (WrS.made HB1.out)
  have HNe := Lib.hid (show w.heap.size ≠ w1.heap.size by have := HL1.out; omega)
  clear R1 HB1 HL1
  generalize w1.alloc (.cells #[.slice none 0 0] 55) = W2 at *
  generalize w1.heap.size = b at *
  have k0 := R2.out.cellsG.kind
  have HC2 := Lib.hid (number_any w b [] g.kind (by have := HK.out; omega) (by have := HK.out; omega) 1 (by decide) (by decide) W2 HS2.out)
  go_wp2_with (go_at_call 20; refine HC2.out.mono ?_; rintro e W3 ⟨rfl, hs, ht⟩; refine Hid.out ?_)
  have R3 := Lib.hid (ht.blk R2.out HNe.out (by decide))
  have HC3 := Lib.hid (number_any w b _ g.txn HX.out.1 (by have := HX.out; omega) 4 (by decide) (by rw [List.length_append, numB_len]; decide) W3 hs)
  clear hs ht HC2 HS2 R2 k0
  have k1 := R3.out.cellsG.txn
  refine Lib.hid ?_
  go_wp2_with (go_at_call 20; refine HC3.out.mono ?_; rintro e W4 ⟨rfl, hs, ht⟩; refine Hid.out ?_)
  have R4 := Lib.hid (ht.blk R3.out HNe.out (by decide))
  have HS4 := Lib.hid (show WrS w b (encN [(1, g.kind), (4, g.txn)]) W4 from by simpa [encN] using hs)
  clear hs ht HC3 R3 k1
  refine Lib.hid ?_
  have k0 := R4.out.cellsG.kind
  have HP := Lib.hid (show (encN [(1, g.kind), (4, g.txn)]).length = 5 by show (numB 1 g.kind ++ (numB 4 g.txn ++ [])).length = 5; simp only [List.length_append, numB_len, List.length_nil])
  have HE : encMs g.u = encN [(1, g.kind), (4, g.txn)] ++ bodyL g.u := rfl
  have HE := Lib.hid HE
  obtain ⟨P, hP⟩ : ∃ P, P = encN [(1, g.kind), (4, g.txn)] := ⟨_, rfl⟩
  rw [← hP] at HS4 HP HE
  clear hP
  by_cases h1 : g.kind = 1
  · rw [h1] at k0
    have hbody : bodyL g.u = encM g.mod.u := by unfold bodyL; exact if_pos h1
    rw [hbody] at HE
    have hsm := sndk_1 HSd.out h1
    have HC5 := Lib.hid (wmod_any w b P g.mod HW.out.mod (fitMd_of hsm HW.out.mod) (by rw [HP.out]; decide) W4 HI.out.1 HS4.out)
    have M4 := Lib.hid R4.out.cellsG.mod
    clear hbody hsm
    go_wp2_with (first
      | (refine wpList_load_mid rfl 30 _ rfl w.heap.size 3 rfl (mcl g.mod) _ M4.out Tryd.underlying30 rfl (by rw [mcl_len]; exact infoM) ?_)
      | (go_at_call 21; refine HC5.out.mono ?_; rintro e W5 ⟨rfl, hs, ht⟩; refine Hid.out ?_))
    obtain ⟨v, hB, hO, hb, hg⟩ := hs
    have hc : W5.cell? ⟨b, 0, none⟩ = some v := (cell_of_row _ b 0 _ _ _ hB).trans rfl
    have HR := Lib.hid (EncRet.of hB hO hb hg)
    clear ht hB hO hb hg
    refine Lib.hid ?_
    go_wp2_with fail
    go_ret2
    rw [HE.out]
    exact HR.out
  have e1 := eq_false0 h1
  by_cases h6 : g.kind = 6
  · rw [h6] at k0
    have hbody : bodyL g.u = numB 1 g.e := by unfold bodyL; rw [if_neg (show ¬ g.u.kind = 1 from h1)]; exact if_pos h6
    rw [hbody] at HE
    have hse := sndk_6 HSd.out h6
    have hse' : 1 ≤ g.e ∧ g.e ≤ 17 := hse
    have HC5 := Lib.hid (number_any w b P g.e (by omega) (by omega) 1 (by decide) (by rw [HP.out]; decide) W4 HS4.out)
    have k2 := R4.out.cellsG.e
    clear hbody hse hse'
    go_wp2_with (go_at_call 20; refine HC5.out.mono ?_; rintro e W5 ⟨rfl, hs, ht⟩; refine Hid.out ?_)
    obtain ⟨v, hB, hO, hb, hg⟩ := hs
    have hc : W5.cell? ⟨b, 0, none⟩ = some v := (cell_of_row _ b 0 _ _ _ hB).trans rfl
    have HR := Lib.hid (EncRet.of hB hO hb hg)
    clear ht hB hO hb hg
    refine Lib.hid ?_
    go_wp2_with fail
    go_ret2
    rw [HE.out]
    exact HR.out
  have e6 := eq_false0 h6
  by_cases h8 : g.kind = 8
  · rw [h8] at k0
    have hbody : bodyL g.u = numB 1 g.port ++ encN (headN g.head) := by unfold bodyL; rw [if_neg (show ¬ g.u.kind = 1 from h1), if_neg (show ¬ g.u.kind = 6 from h6)]; exact if_pos h8
    rw [hbody, ← List.append_assoc] at HE
    have hse : 1 ≤ g.port ∧ g.port ≤ 16 := sndk_8 HSd.out h8
    have HC5 := Lib.hid (number_any w b P g.port (by omega) (by omega) 1 (by decide) (by rw [HP.out]; decide) W4 HS4.out)
    have k34 := R4.out.cellsG.port
    clear hbody hse
    go_wp2_with (go_at_call 20; refine HC5.out.mono ?_; rintro e W5 ⟨rfl, hs, ht⟩; refine Hid.out ?_)
    have R5 := Lib.hid (ht.blk R4.out HNe.out (by decide))
    have HC6 := Lib.hid (whead_any w b _ g.head HW.out.head (by rw [List.length_append, numB_len, HP.out]; decide) W5 hs)
    have MH := Lib.hid R5.out.cellsG.head
    clear hs ht HC5 k34 k0 R4 HS4
    refine Lib.hid ?_
    go_wp2_with (first
      | (refine wpList_load_mid rfl 25 _ rfl w.heap.size 35 rfl (hl g.head) _ MH.out Tryd.underlying25 rfl infoHead ?_)
      | (go_at_call 22; refine HC6.out.mono ?_; rintro e W6 ⟨rfl, hs, ht⟩; refine Hid.out ?_))
    obtain ⟨v, hB, hO, hb, hg⟩ := hs
    have hc : W6.cell? ⟨b, 0, none⟩ = some v := (cell_of_row _ b 0 _ _ _ hB).trans rfl
    have HR := Lib.hid (EncRet.of hB hO hb hg)
    clear ht hB hO hb hg
    refine Lib.hid ?_
    go_wp2_with fail
    go_ret2
    rw [HE.out]
    exact HR.out
  have e8 := eq_false0 h8
  by_cases h9 : g.kind = 9 ∨ g.kind = 10
  · have hbody : bodyL g.u = numB 2 (g.rs.length : Int) ++ (g.rs.map (·.u)).flatMap encR := by
      unfold bodyL
      rw [if_neg (show ¬ g.u.kind = 1 from h1), if_neg (show ¬ g.u.kind = 6 from h6), if_neg (show ¬ g.u.kind = 8 from h8), if_pos (show g.u.kind = 9 ∨ g.u.kind = 10 from h9), show g.u.rules = g.rs.map (·.u) from rfl, List.length_map]
    rw [hbody] at HE
    have hse := sndk_9 HSd.out h9
    have hwr : WfRL g.rs := fun r hr => HW.out.rules _ (List.mem_map_of_mem hr)
    have HC5 := Lib.hid (wrules_any w b P (.slice g.q g.n g.c) g.rs hwr (fun r hr => fitRu_of (hse.2 _ (List.mem_map_of_mem hr)) (hwr r hr)) (by have := hse.1; rw [show g.u.rules = g.rs.map (·.u) from rfl, List.length_map] at this; exact this) (by rw [HP.out]; decide) W4 HI.out.2 HS4.out)
    have k47 := R4.out.cellsG.rules
    clear hbody hse hwr
    rcases h9 with h9 | h9
    · rw [h9] at k0
      go_wp2_with (go_at_call 23; refine HC5.out.mono ?_; rintro e W5 ⟨rfl, hs, ht⟩; refine Hid.out ?_)
      obtain ⟨v, hB, hO, hb, hg⟩ := hs
      have hc : W5.cell? ⟨b, 0, none⟩ = some v := (cell_of_row _ b 0 _ _ _ hB).trans rfl
      have HR := Lib.hid (EncRet.of hB hO hb hg)
      clear ht hB hO hb hg
      refine Lib.hid ?_
      go_wp2_with fail
      go_ret2
      rw [HE.out]
      exact HR.out
    · rw [h9] at k0
      go_wp2_with (go_at_call 23; refine HC5.out.mono ?_; rintro e W5 ⟨rfl, hs, ht⟩; refine Hid.out ?_)
      obtain ⟨v, hB, hO, hb, hg⟩ := hs
      have hc : W5.cell? ⟨b, 0, none⟩ = some v := (cell_of_row _ b 0 _ _ _ hB).trans rfl
      have HR := Lib.hid (EncRet.of hB hO hb hg)
      clear ht hB hO hb hg
      refine Lib.hid ?_
      go_wp2_with fail
      go_ret2
      rw [HE.out]
      exact HR.out
  · have e9 := eq_false0 (fun h => h9 (.inl h))
    have e10 := eq_false0 (fun h => h9 (.inr h))
    have hbody : bodyL g.u = [] := by
      unfold bodyL
      rw [if_neg (show ¬ g.u.kind = 1 from h1), if_neg (show ¬ g.u.kind = 6 from h6), if_neg (show ¬ g.u.kind = 8 from h8), if_neg (show ¬ (g.u.kind = 9 ∨ g.u.kind = 10) from h9)]
    rw [hbody, List.append_nil] at HE
    obtain ⟨v, hB, hO, hb, hg⟩ := HS4.out
    have hc : W4.cell? ⟨b, 0, none⟩ = some v := (cell_of_row _ b 0 _ _ _ hB).trans rfl
    have HR := Lib.hid (EncRet.of hB hO hb hg)
    clear hB hO hb hg hbody h9
    go_wp2_with fail
    go_ret2
    rw [HE.out]
    exact HR.out
theorem enc_any (g : Gm) (hw : WfMs g.u) (w : World) (hi : InG g w) (ht : Tab w) (hz : 0 < w.heap.size) :
    Calls Tryd.prog 11 #[.agg (gca g)] w (EncRet w (encE g.u) (encV g.u)) := by
  unfold encE encV
  by_cases hs : sndMs g.u = true
  · rw [if_pos hs, if_pos hs]; exact enc_yes g hw hs w hi ht hz
  · rw [if_neg hs, if_neg hs]; exact enc_no g hw (by simpa using hs) w hi ht hz
end Go.Proofs.YtndgbgolmpoepaaDoor
