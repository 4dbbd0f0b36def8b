/-
  Feed of a reader of frames.
-/
import Derived.Test.YtdcekbmoihmjkaaFrmRd
namespace Go.Proofs.Ytdcekbmoihmjkaa
set_option maxRecDepth 20000
open Go.RowKit

/-- what a reader's method that answers nothing leaves -/
def FdRet (b : Nat) (v : Value) (q : List Int) (bad : Bool) (w : World) (e : Ending) (w' : World) : Prop := e = .returned (.tuple #[]) ∧ ∃ v', RdA b v' q bad w' ∧ FKeep b v v' w w'
set_option maxHeartbeats 1000000 in
theorem ffeed_bad (b : Nat) (v : Value) (q : List Int) (vin : Value) (k : List Int) (hlen : q.length + k.length ≤ 1000000) (w : World) (h : RdA b v q true w) (hk : KLies KB vin k w) :
    Calls Try.prog 10 #[.pointer (some ⟨b, 0, none⟩), vin] w (FdRet b v (q ++ k) true w) := by
  have HR := Lib.hid h
  obtain ⟨l, c, u, hB, hO, h1, h2, h3, h4, _⟩ := h
  obtain ⟨p, n, rfl⟩ := hk.form
  have hu := h4 rfl
  have R0 := Lib.hid hB
  have HO := Lib.hid hO
  have HN := Lib.hid (show c ≤ l.length ∧ l.length ≤ 2 * (q ++ k).length ∧ (q ++ k).length = l.length - c + (u + k.length) ∧ 0 < u + k.length by rw [List.length_append]; omega)
  have c2 : w.cell? ⟨b, 2, none⟩ = some (.int .i64 (u : Int)) := (cell_of_row w b 2 _ _ _ hB).trans rfl
  have huI : (u : Int) > 0 := by omega
  have huI2 : (0 : Int) < (u : Int) := by omega
  obtain ⟨m, hm⟩ : ∃ m, m = k.length := ⟨_, rfl⟩
  rw [← hm] at HN hlen ⊢
  obtain ⟨z, hz⟩ : ∃ z : Int, z = ((u + m : Nat) : Int) := ⟨_, rfl⟩
  have e1 : IntKind.i64.wrap ((u : Int) + (m : Int)) = z := by simp only [IntKind.wrap_i64]; omega
  have e2 : wrap64 ((u : Int) + (m : Int)) = z := by simp only [wrap64]; omega
  have HZ := Lib.hid hz
  clear hB hO h1 h2 h3 h4 hlen hk hm hu hz
  go_enter Try.func10, Try.ntmps10
  go_wp2_with (refine storeCell rfl 3 _ _ rfl b 2 (.int .i64 z) rfl (by first | rfl | exact congrArg (Value.int .i64) e1 | exact congrArg (Value.int .i64) e2) rfl (R0.out.there (by simp)) infoInt1 ?_; refine Hid.out ?_)
  have R1 := Lib.hid (show Blk b #[v, .int .i64 (c : Int), .int .i64 z] 39 (w.setCell ⟨b, 2, none⟩ (.int .i64 z)) by simpa using R0.out.one (k := 2) (.int .i64 z))
  have HO1 := Lib.hid (show KOwns KB (b + 1) v l (w.setCell ⟨b, 2, none⟩ (.int .i64 z)) from HO.out.at fun g hg => heap_setCell_other _ _ _ _ (by have := HO.out.lt g hg; show g ≠ b; omega))
  have HF := Lib.hid (show FKeep b v v w (w.setCell ⟨b, 2, none⟩ (.int .i64 z)) from ⟨(Below.refl b w).setCell (Nat.le_refl _) _, fun g _ hne _ => heap_setCell_other _ _ _ _ (by show g ≠ b; exact hne), fun _ h => .inl h⟩)
  clear c2 R0 HO HR
  generalize w.setCell ⟨b, 2, none⟩ (.int .i64 z) = W1 at *
  refine Lib.hid ?_
  go_wp2_with fail
  refine bodyPost_end (results_none rfl _ _ _) rfl ?_
  exact ⟨rfl, v, ⟨l, c, u + m, by rw [← HZ.out]; exact R1.out, HO1.out, HN.out.1, HN.out.2.1, HN.out.2.2.1, fun _ => HN.out.2.2.2, fun h => (by cases h)⟩, HF.out⟩
set_option maxHeartbeats 1000000 in
theorem ffeed_ok (b : Nat) (v : Value) (q : List Int) (vin : Value) (k : List Int) (hlen : q.length + k.length ≤ 1000000) (w : World) (h : RdA b v q false w) (hk : KLies KB vin k w) :
    Calls Try.prog 10 #[.pointer (some ⟨b, 0, none⟩), vin] w (FdRet b v (q ++ k) false w) := by
  have HR := Lib.hid h
  obtain ⟨l, c, u, hB, hO, h1, h2, h3, _, h5⟩ := h
  obtain ⟨rfl, h6⟩ := h5 rfl
  have R0 := Lib.hid hB
  have HO := Lib.hid hO
  have HK := Lib.hid hk
  have HN := Lib.hid (show c ≤ (l ++ k).length ∧ (l ++ k).length ≤ 2 * (q ++ k).length ∧ (q ++ k).length = (l ++ k).length - c + 0 ∧ (l ++ k).drop c = q ++ k by
    refine ⟨by rw [List.length_append]; omega, by rw [List.length_append, List.length_append]; omega, by rw [List.length_append, List.length_append]; omega, ?_⟩
    rw [List.drop_append_of_le_length h1, h6])
  have HL := Lib.hid (show (l.length + k.length) * KB.room ≤ 140737488355328 by show (l.length + k.length) * 1 ≤ _; omega)
  have c0 : w.cell? ⟨b, 0, none⟩ = some v := (cell_of_row w b 0 _ _ _ hB).trans rfl
  have c2 : w.cell? ⟨b, 2, none⟩ = some (.int .i64 0) := (cell_of_row w b 2 _ _ _ hB).trans rfl
  clear hB hO h1 h2 h3 h5 h6 hlen hk
  go_enter Try.func10, Try.ntmps10
  go_wp2_with (refine kappendAt KB okB rfl _ _ rfl (b + 1) v l k rfl HO.out vin rfl HK.out (by have := HR.out.lt; omega) HL.out (fun v' W' ho hg hat => ?_); refine Hid.out ?_)
  obtain ⟨p', c', rfl⟩ := ho.form
  have hgb : some b ≠ v.ownBlock := fun e => by have := HO.out.lt b e.symm; omega
  have RB := Lib.hid (show Blk b #[v, .int .i64 (c : Int), .int .i64 0] 39 W' from (hg.block b R0.out.lt hgb).trans R0.out)
  have HO1 := Lib.hid ho
  have HF1 := Lib.hid (show FKeep b v (.slice p' (l ++ k).length c') w W' from ⟨⟨hg.os, hg.tape, hg.output, hg.size, fun g hgb' => hg.block g (by have := R0.out.lt; omega) fun e => by have := HO.out.lt g e.symm; omega⟩, fun g hlt _ hv => hg.block g hlt fun e => hv e.symm, fun g hgv => by
    rcases hat with e | e
    · exact .inl (by rw [← e]; exact hgv)
    · rw [e] at hgv
      injection hgv with hgv
      exact .inr (by omega)⟩)
  clear ho hg hat hgb R0 HO HK HR c0 c2 HL
  generalize hn : (l ++ k).length = n at *
  have HNN := Lib.hid hn
  clear hn
  refine Lib.hid ?_
  go_wp2_with (refine storeCell rfl 22 _ _ rfl b 0 (.slice p' n c') rfl rfl rfl (RB.out.there (by simp)) infoBs ?_; refine Hid.out ?_)
  have R1 := Lib.hid (show Blk b #[.slice p' n c', .int .i64 (c : Int), .int .i64 0] 39 (W'.setCell ⟨b, 0, none⟩ (.slice p' n c')) by simpa using RB.out.one (k := 0) (.slice p' n c'))
  have HO2 := Lib.hid (show KOwns KB (b + 1) (.slice p' n c') (l ++ k) (W'.setCell ⟨b, 0, none⟩ (.slice p' n c')) from HO1.out.at fun g hg => heap_setCell_other _ _ _ _ (by have := HO1.out.lt g hg; show g ≠ b; omega))
  have HF2 := Lib.hid (show FKeep b v (.slice p' n c') w (W'.setCell ⟨b, 0, none⟩ (.slice p' n c')) from ⟨HF1.out.below.setCell (Nat.le_refl _) _, fun g hlt hne hv => (heap_setCell_other _ _ _ _ (by show g ≠ b; exact hne)).trans (HF1.out.keep g hlt hne hv), HF1.out.own⟩)
  clear RB HO1 HF1
  generalize W'.setCell ⟨b, 0, none⟩ (.slice p' n c') = W1 at *
  refine Lib.hid ?_
  go_wp2_with fail
  refine bodyPost_end (results_none rfl _ _ _) rfl ?_
  exact ⟨rfl, _, ⟨l ++ k, c, 0, R1.out, HO2.out, by rw [HNN.out]; exact HN.out.1, by rw [HNN.out]; exact HN.out.2.1, by rw [HNN.out]; exact HN.out.2.2.1, fun h => (by cases h), fun _ => ⟨rfl, HN.out.2.2.2⟩⟩, HF2.out⟩
/-- Feed: more that waits -/
theorem ffeed_any (b : Nat) (v : Value) (q : List Int) (bad : Bool) (vin : Value) (k : List Int) (hlen : q.length + k.length ≤ 1000000) (w : World) (h : RdA b v q bad w) (hk : KLies KB vin k w) :
    Calls Try.prog 10 #[.pointer (some ⟨b, 0, none⟩), vin] w (FdRet b v (q ++ k) bad w) := by
  cases bad
  · exact ffeed_ok b v q vin k hlen w h hk
  · exact ffeed_bad b v q vin k hlen w h hk
end Go.Proofs.Ytdcekbmoihmjkaa
