/-
  The walk of the law FrameList.
-/
import Derived.Test.YtdcekbmoihmjkaaFrmLaw
import Derived.Test.YtdcekbmoihmjkaaFrmArg
namespace Go.Proofs.Ytdcekbmoihmjkaa
set_option maxRecDepth 20000
open Go.RowKit

/-- frames one behind the other -/
def frms (L : List Bl) : List Int := L.flatMap fun a => frm a.l
theorem frms_snoc (L : List Bl) {r : Nat} {a : Bl} (h : L[r]? = some a) : frms (L.take (r + 1)) = frms (L.take r) ++ frm a.l := by
  rw [List.take_add_one, h]
  unfold frms
  rw [List.flatMap_append]
  simp
theorem frms_cons (L : List Bl) {r : Nat} {a : Bl} (h : L[r]? = some a) : frms (L.drop r) = frm a.l ++ frms (L.drop (r + 1)) := by
  obtain ⟨hr, e⟩ := List.getElem?_eq_some_iff.1 h
  rw [List.drop_eq_getElem_cons hr, e]
  rfl
theorem frms_len : ∀ (L : List Bl), (∀ a ∈ L, a.l.length ≤ 1000) → (frms L).length ≤ L.length * 1004
  | [], _ => Nat.zero_le _
  | a :: L, h => by
    have ih := frms_len L fun x hx => h x (List.mem_cons_of_mem _ hx)
    have h1 := h a (List.mem_cons_self ..)
    show (frm a.l ++ frms L).length ≤ (L.length + 1) * 1004
    rw [List.length_append, frm_len]
    omega
theorem frms_byte (L : List Bl) (h : ∀ a ∈ L, ByL a.l) : ByL (frms L) := fun x hx => by
  obtain ⟨a, ha, hx⟩ := List.mem_flatMap.1 hx
  exact frm_byte (h a ha) x hx
theorem cellL {p : Option Addr} {n c : Nat} {l : List Bl} {W : World} {i : Nat} {x : Bl} (h : KLies KL (.slice p n c) l W) (hi : l[i]? = some x) : ∃ bb o, p = some ⟨bb, o, none⟩ ∧ W.cell? ⟨bb, o + i, none⟩ = some (.slice x.p x.l.length x.c) := by
  obtain ⟨bb, o, e, hr⟩ := h.at hi
  refine ⟨bb, o, e, ?_⟩
  have := hr 0 (.slice x.p x.l.length x.c) rfl
  rwa [show o + i * 1 + 0 = o + i by omega] at this

set_option maxRecDepth 100000 in
set_option maxHeartbeats 8000000 in
theorem frameList_any (v : Value) (L : List Bl) (w : World) (hw : ∀ a ∈ L, InL a w) (_ : L.length ≤ 140737488355328) (hl : KLies KL v L w) :
    Calls Try.prog 5 #[v] w fun e w' => e = .returned (.bool true) ∧ Below w.heap.size w w' := by
  obtain ⟨p, c, rfl⟩ := hl.form
  have HL := Lib.hid hl
  have HW := Lib.hid hw
  clear hl hw
  obtain ⟨n, hn⟩ : ∃ n, n = L.length := ⟨_, rfl⟩
  rw [← hn] at HL ⊢
  have HN := Lib.hid hn
  clear hn
  by_cases hB : 50 < n
  · have hBI : (50 : Int) < (n : Int) := by omega
    have HA := Lib.hid (answers10 w)
    clear hB
    go_enter Try.func5, Try.ntmps5
    go_wp2_with (go_at_call 8; refine HA.out.mono ?_; rintro e W1 ⟨rfl, hb⟩)
    go_ret
    exact ⟨rfl, hb⟩
  have hBI : ¬ (50 : Int) < (n : Int) := by omega
  have HB := Lib.hid (Nat.le_of_not_lt hB)
  clear hB
  have HC0 := Lib.hid (fnew_any w)
  go_enter Try.func5, Try.ntmps5
  go_wp2_with (go_at_call 9; refine HC0.out.mono ?_; rintro e W0 ⟨rfl, hr, hb⟩; refine Hid.out ?_)
  obtain ⟨b, hbb⟩ : ∃ b, b = w.heap.size := ⟨_, rfl⟩
  rw [← hbb] at hr
  rw [← hbb]
  have HBB := Lib.hid (Nat.le_of_eq hbb.symm)
  have HR0 := Lib.hid hr
  have HK0 := Lib.hid hb
  clear hbb hr hb HC0 hBI
  refine Lib.hid ?_
  go_wp2_with fail
  go_loopg [4] n (fun q s4 wr => ∃ r : Nat, r + q = n ∧ s4 = .int .i64 r ∧ ∃ vr, RdA b vr (frms (L.take r)) false wr ∧ Below w.heap.size w wr ∧ ∀ a ∈ L.take r, a.l.length ≤ 1000)
  case atStart => exact ⟨0, by omega, rfl, _, HR0.out, HK0.out, fun a ha => (by cases ha)⟩
  case round =>
    clear HR0 HK0
    obtain ⟨r, hr, rfl, vr, hR, hK, hS⟩ := hrel
    have HR := Lib.hid hR
    have HK := Lib.hid hK
    have HS := Lib.hid hS
    clear hR hK hS
    by_cases hlt : r < n
    · have hltI : (r : Int) < (n : Int) := by omega
      obtain ⟨a, ha⟩ := lt_some (l := L) (i := r) (by have := HN.out; omega)
      have HIa := Lib.hid (HW.out a (List.mem_of_getElem? ha))
      have HAe := Lib.hid ha
      obtain ⟨bb, o, rfl, ka⟩ := cellL (HL.out.below okL HK.out) ha
      clear ha
      obtain ⟨m, hm⟩ : ∃ m, m = a.l.length := ⟨_, rfl⟩
      rw [← hm] at ka
      have HM := Lib.hid hm
      clear hm
      by_cases hB : 1000 < m
      · have hBI : (1000 : Int) < (m : Int) := by omega
        have HA := Lib.hid (answers10 wr)
        clear hB
        go_wp2_with (go_at_call 8; refine HA.out.mono ?_; rintro e W1 ⟨rfl, hb⟩)
        go_ret
        exact ⟨rfl, HK.out.trans (hb.mono HK.out.size)⟩
      have hBI : ¬ (1000 : Int) < (m : Int) := by omega
      have HMb := Lib.hid (show a.l.length ≤ 1000 by rw [← HM.out]; omega)
      clear hB
      have HC1 := Lib.hid (fwrap_any (.slice a.p m a.c) a.l wr (by rw [HM.out]; exact HIa.out.1.below okB HK.out))
      go_wp2_with (go_at_call 7; refine HC1.out.mono ?_; rintro e W1 ⟨x, rfl, hx, hb⟩; refine Hid.out ?_)
      have e2 := (wrap_ok (l := a.l) (by have := HMb.out; omega)).2
      rw [e2] at hx
      have HR1 := Lib.hid (HR.out.below hb)
      have HK1 := Lib.hid (HK.out.trans (hb.mono HK.out.size))
      have HC2 := Lib.hid (ffeed_any b vr (frms (L.take r)) false x (frm a.l) (by
        have h1 := frms_len _ HS.out
        have h2 : (L.take r).length ≤ 50 := by rw [List.length_take]; have := HB.out; have := HN.out; omega
        have := HMb.out
        rw [frm_len]
        omega) W1 HR1.out (hx.lies okB))
      rw [← frms_snoc L HAe.out] at HC2
      clear hx hb HC1 HR HK ka hBI e2
      refine Lib.hid ?_
      go_wp2_with (go_at_call 10; refine HC2.out.mono ?_; rintro e W2 ⟨rfl, v2, hr2, hf⟩; refine Hid.out ?_)
      have HR2 := Lib.hid hr2
      have HK2 := Lib.hid (hf.old HK1.out HBB.out)
      clear hr2 hf HC2 HR1 HK1
      have hr9 : r < 1000 := by have := HB.out; omega
      refine Lib.hid ?_
      go_wp2_with fail
      go_roundg (n - (r + 1))
      case measure => omega
      case rel =>
        refine ⟨r + 1, by omega, by have := HB.out; go_num, v2, HR2.out, HK2.out, fun y hy => ?_⟩
        rw [List.take_add_one, HAe.out] at hy
        rcases List.mem_append.1 hy with hy | hy
        · exact HS.out y hy
        · simp only [Option.toList_some, List.mem_cons, List.not_mem_nil, or_false] at hy
          subst hy
          exact HMb.out
    · have hltI : ¬ (r : Int) < (n : Int) := by omega
      obtain rfl : r = n := by omega
      have e0 : L.take r = L := List.take_of_length_le (by rw [HN.out]; exact Nat.le_refl _)
      rw [e0] at HR HS
      clear e0 hlt hr
      go_wp2_with fail
      go_loopg [7] r (fun q s7 wr => ∃ t : Nat, t + q = r ∧ s7 = .int .i64 t ∧ ∃ vr, RdA b vr (frms (L.drop t)) false wr ∧ Below w.heap.size w wr)
      case atStart => exact ⟨0, by omega, rfl, _, HR.out, HK.out⟩
      case round =>
        clear HR HK
        obtain ⟨t, ht, rfl, v1, hR, hK⟩ := hrel
        have HR := Lib.hid hR
        have HK := Lib.hid hK
        clear hR hK
        by_cases hlt2 : t < r
        · have hltI2 : (t : Int) < (r : Int) := by omega
          obtain ⟨a, ha⟩ := lt_some (l := L) (i := t) (by have := HN.out; omega)
          have HIa := Lib.hid (HW.out a (List.mem_of_getElem? ha))
          have HMb := Lib.hid (HS.out a (List.mem_of_getElem? ha))
          have HC1 := Lib.hid (fnext_any b v1 (frms (L.drop t)) false (by
            have h1 := frms_len (L.drop t) fun x hx => HS.out x (List.mem_of_mem_drop hx)
            have h2 : (L.drop t).length ≤ 50 := by rw [List.length_drop]; have := HB.out; have := HN.out; omega
            omega) (frms_byte _ fun x hx => (HW.out x (List.mem_of_mem_drop hx)).2) wr HR.out)
          rw [frms_cons L ha, nxt_frm (by have := HMb.out; omega)] at HC1
          have HAe := Lib.hid ha
          clear ha
          go_wp2_with (go_at_call 11; refine HC1.out.mono ?_; rintro e W1 ⟨y, v2, rfl, hy, _, hr2, hf⟩; refine Hid.out ?_)
          have HR1 := Lib.hid (show RdA b v2 (frms (L.drop (t + 1))) false W1 from hr2)
          have HK1 := Lib.hid (hf.old HK.out HBB.out)
          have HY1 := Lib.hid (show KLies KB y a.l W1 from hy.lies okB)
          clear hr2 hf hy HC1 HR HK
          obtain ⟨bb, o, rfl, ka⟩ := cellL (HL.out.below okL HK1.out) HAe.out
          have HC2 := Lib.hid (rsame_at y (.slice a.p a.l.length a.c) a.l (by have := HMb.out; omega) W1 HY1.out (HIa.out.1.below okB HK1.out))
          generalize a.l.length = m at *
          refine Lib.hid ?_
          go_wp2_with (go_at_call 12; refine HC2.out.mono ?_; rintro e W2 ⟨rfl, hb⟩; refine Hid.out ?_)
          have HR2 := Lib.hid (HR1.out.below hb)
          have HK2 := Lib.hid (HK1.out.trans (hb.mono HK1.out.size))
          clear hb HC2 HR1 HK1 ka HY1
          have ht9 : t < 1000 := by have := HB.out; omega
          refine Lib.hid ?_
          go_wp2_with fail
          go_roundg (r - (t + 1))
          case measure => omega
          case rel => exact ⟨t + 1, by omega, by have := HB.out; go_num, v2, HR2.out, HK2.out⟩
        · have hltI2 : ¬ (t : Int) < (r : Int) := by omega
          obtain rfl : t = r := by omega
          have e0 : L.drop t = [] := List.drop_of_length_le (by rw [HN.out]; exact Nat.le_refl _)
          rw [e0] at HR
          clear e0
          have HA := Lib.hid (answers10 wr)
          go_wp2_with (go_at_call 8; refine HA.out.mono ?_; rintro e W1 ⟨rfl, hb⟩; refine Hid.out ?_)
          have HK1 := Lib.hid (HK.out.trans (hb.mono HK.out.size))
          have HC1 := Lib.hid (fleft_any b v1 [] false (by decide) W1 (HR.out.below hb))
          clear hb HA HR HK
          refine Lib.hid ?_
          go_wp2_with (go_at_call 13; refine HC1.out.mono ?_; rintro e W2 ⟨rfl, hb⟩)
          go_ret
          exact ⟨rfl, HK1.out.trans (hb.mono HK1.out.size)⟩
end Go.Proofs.Ytdcekbmoihmjkaa
