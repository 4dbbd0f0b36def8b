/-
  Wrap.
-/
import Derived.Test.YtdcekbmoihmjkaaFrmWr
namespace Go.Proofs.Ytdcekbmoihmjkaa
set_option maxRecDepth 20000
open Go.RowKit

/-- what Wrap gives: the error, the frame -/
def wrapE (l : List Int) : Int := if 65536 < l.length then 13 else 0
def wrapV (l : List Int) : List Int := if 65536 < l.length then [] else numB 4 (l.length : Int) ++ l
def WrpRet (w : World) (l : List Int) (e : Ending) (w' : World) : Prop := ∃ x, e = .returned (.tuple #[x, .int .i64 (wrapE l)]) ∧ KOwns KB w.heap.size x (wrapV l) w' ∧ Below w.heap.size w w'
theorem numB4 (n : Int) : numB 4 n = [n / 16777216 % 256, n / 65536 % 256, n / 256 % 256, n % 256] := by
  simp only [numB, List.nil_append, List.cons_append]
  rw [show n / 256 / 256 / 256 = n / 16777216 by omega, show n / 256 / 256 = n / 65536 by omega]
set_option maxHeartbeats 4000000 in
theorem fwrap_any (v : Value) (l : List Int) (w : World) (hl : KLies KB v l w) :
    Calls Try.prog 7 #[v] w (WrpRet w l) := by
  obtain ⟨p, c, rfl⟩ := hl.form
  have HL := Lib.hid hl
  clear hl
  obtain ⟨n, hn⟩ : ∃ n, n = l.length := ⟨_, rfl⟩
  rw [← hn] at HL ⊢
  have HN := Lib.hid hn
  clear hn
  by_cases hL : 65536 < n
  · have hLI : (65536 : Int) < (n : Int) := by omega
    have HE := Lib.hid (show wrapE l = 13 ∧ wrapV l = [] by unfold wrapE wrapV; rw [← HN.out, if_pos hL, if_pos hL]; exact ⟨rfl, rfl⟩)
    clear hL
    go_enter Try.func7, Try.ntmps7
    go_wp2_with fail
    go_ret2
    exact ⟨.slice none 0 0, by rw [HE.out.1]; rfl, by rw [HE.out.2]; exact KOwns.nil _ _, Below.refl _ _⟩
  have hLI : ¬ (65536 : Int) < (n : Int) := by omega
  have HE := Lib.hid (show wrapE l = 0 ∧ wrapV l = numB 4 (n : Int) ++ l by unfold wrapE wrapV; rw [← HN.out, if_neg hL, if_neg hL]; exact ⟨rfl, rfl⟩)
  have HB4 := Lib.hid (show numB 4 (n : Int) = [(n : Int) / 16777216, (n : Int) / 65536, (n : Int) / 256 % 256, (n : Int) % 256] by rw [numB4, show (n : Int) / 16777216 % 256 = (n : Int) / 16777216 by omega, show (n : Int) / 65536 % 256 = (n : Int) / 65536 by omega])
  obtain ⟨A, hA⟩ : ∃ A, A = #[Value.int .u8 ((n : Int) / 16777216), .int .u8 ((n : Int) / 65536), .int .u8 ((n : Int) / 256 % 256), .int .u8 ((n : Int) % 256)] := ⟨_, rfl⟩
  obtain ⟨B, hB⟩ : ∃ B, B = #[Value.slice (some ⟨w.heap.size, 0, none⟩) 4 4, .slice p n c] := ⟨_, rfl⟩
  have HB2 := Lib.hid ((below1 w (.cells A KB.T)).trans ((below1 (w.alloc (.cells A KB.T)) (.cells B KL.T)).mono (below1 w (.cells A KB.T)).size))
  have HK1 : KLies KB (.slice (some ⟨w.heap.size, 0, none⟩) 4 4) (numB 4 (n : Int)) (w.alloc (.cells A KB.T)) := by
    rw [HB4.out, hA]
    exact Blk.klies (K := KB) (l := [(n : Int) / 16777216, (n : Int) / 65536, (n : Int) / 256 % 256, (n : Int) % 256]) (Blk.new w _ KB.T) okB rfl
  have HC := Lib.hid (bconcat_any (w.heap.size + 1) (.slice (some ⟨w.heap.size, 0, none⟩) 4 4) (.slice p n c) (numB 4 (n : Int)) l (by rw [numB_len, ← HN.out]; omega) ((w.alloc (.cells A KB.T)).alloc (.cells B KL.T)) (by rw [← hB]; exact Blk.new2 w _ B KL.T) (HK1.below okB (below1 _ _)) (HL.out.below okB HB2.out))
  clear HK1 HB4 HL
  rw [hA, hB] at HC HB2
  clear hA hB
  go_enter Try.func7, Try.ntmps7
  go_upto_region 4 with fail
  go_wp2_with fail
  refine HC.out.mono ?_
  rintro e W3 ⟨x, rfl, hx, hb⟩
  have HX := Lib.hid hx
  have HB3 := Lib.hid (HB2.out.trans (hb.mono HB2.out.size))
  clear hx hb HC
  go_wp2_with fail
  go_ret2
  exact ⟨x, by rw [HE.out.1]; rfl, by rw [HE.out.2]; exact KOwns.mono HX.out HB2.out.size, HB3.out⟩
end Go.Proofs.Ytdcekbmoihmjkaa
