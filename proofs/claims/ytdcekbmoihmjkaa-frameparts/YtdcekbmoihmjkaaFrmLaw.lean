/-
  What the laws of podestalaw10 say of frames, without memory: what Next gives of wrapped bytes.
-/
import Derived.Test.YtdcekbmoihmjkaaFrmAns
import Derived.Test.YtdcekbmoihmjkaaFrmWp
namespace Go.Proofs.Ytdcekbmoihmjkaa
set_option maxRecDepth 20000
open Go.RowKit

/-- a frame's bytes -/
def frm (l : List Int) : List Int := numB 4 (l.length : Int) ++ l
theorem frm_len (l : List Int) : (frm l).length = 4 + l.length := by unfold frm; rw [List.length_append, numB_len]
theorem frm_byte {l : List Int} (h : ByL l) : ByL (frm l) := (numB_byte 4 _).app h
theorem wrap_ok {l : List Int} (h : l.length ≤ 65536) : wrapE l = 0 ∧ wrapV l = frm l := by unfold wrapE wrapV; rw [if_neg (by omega), if_neg (by omega)]; exact ⟨rfl, rfl⟩
theorem wrap_no {l : List Int} (h : 65536 < l.length) : wrapE l = 13 ∧ wrapV l = [] := by unfold wrapE wrapV; rw [if_pos h, if_pos h]; exact ⟨rfl, rfl⟩
theorem frm_take (l t : List Int) : (frm l ++ t).take 4 = numB 4 (l.length : Int) := by
  unfold frm
  rw [List.append_assoc, List.take_append_of_le_length (by rw [numB_len]; exact Nat.le_refl 4), List.take_of_length_le (by rw [numB_len]; exact Nat.le_refl 4)]
/-- what Next gives of a frame with whatever behind it -/
theorem nxt_frm {l : List Int} (h : l.length ≤ 65536) (t : List Int) : nxt (frm l ++ t) false = (0, l, t, false) := by
  have hv : valB ((frm l ++ t).take 4) = (l.length : Int) := by rw [frm_take]; exact valB_num 4 _ (by omega) (by rw [powB_4]; omega)
  have hn : (valB ((frm l ++ t).take 4)).toNat = l.length := by rw [hv]; rfl
  rw [nxt_ok (by rw [List.length_append, frm_len]; omega) (by rw [hv]; omega) (by rw [hn, List.length_append, frm_len]; omega), hn]
  have h4 : (frm l ++ t).drop 4 = l ++ t := by
    unfold frm
    rw [List.append_assoc, List.drop_append_of_le_length (by rw [numB_len]; exact Nat.le_refl 4), List.drop_of_length_le (by rw [numB_len]; exact Nat.le_refl 4), List.nil_append]
  rw [← List.drop_drop, h4, List.take_append_of_le_length (Nat.le_refl _), List.take_of_length_le (Nat.le_refl _), List.drop_append_of_le_length (Nat.le_refl _), List.drop_of_length_le (Nat.le_refl _), List.nil_append]
theorem nxt_nil : nxt [] false = (8, [], [], false) := rfl
theorem rsame_at (v1 v2 : Value) (l : List Int) (hlen : l.length ≤ 1000000000) (w : World) (h1 : KLies KB v1 l w) (h2 : KLies KB v2 l w) :
    Calls Try.prog 12 #[v1, v2] w fun e w' => e = .returned (.bool true) ∧ Below w.heap.size w w' := by
  have h := rsameB_any v1 v2 l l hlen w h1 h2
  rwa [decide_eq_true rfl] at h
/-- bytes written out, in a block of their own -/
theorem Blk.kowns {α : Type} {K : Kd α} {g : Nat} {cs : Array Value} {l : List α} {W : World} (h : Blk g cs K.T W) (ok : K.Ok) (he : cs.toList = K.flat l) (hm : l.length ≤ maxLen) : KOwns K g (.slice (some ⟨g, 0, none⟩) l.length l.length) l W := by
  have hs : cs.size = l.length * K.n := by rw [← ok.flat_len, ← he]; rfl
  exact ⟨ok.flat_len l, .inr ⟨g, l.length, cs, rfl, Nat.le_refl _, h, Nat.le_refl _, hm, hs, by rw [← hs, he, List.take_of_length_le (by rw [ok.flat_len, hs]; exact Nat.le_refl _)]⟩⟩
end Go.Proofs.Ytdcekbmoihmjkaa
