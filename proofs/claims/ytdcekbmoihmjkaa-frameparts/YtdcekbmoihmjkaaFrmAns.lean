/-
  What a program that does nothing does not answer, of podestalaw10.
-/
import Derived.Test.YtdcekbmoihmjkaaFrmNx
import Derived.Lib.SmallJoins
namespace Go.Proofs.Ytdcekbmoihmjkaa
set_option maxRecDepth 20000
open Go.RowKit

/-- the six bytes -/
def fansB : List Int := [0, 0, 0, 1, 97, 98]
def fansC : Array Value := #[.int .u8 0, .int .u8 0, .int .u8 0, .int .u8 1, .int .u8 97, .int .u8 98]
theorem fillAns : Instr.fill (fun i' => some (i' * 1, 1)) ((Array.range (6 * 1)).map ((#[Value.int .u8 0] : Array Value)[· % (#[Value.int .u8 0] : Array Value).size]!)) [(0, .int .u8 0), (1, .int .u8 0), (2, .int .u8 0), (3, .int .u8 1), (4, .int .u8 97), (5, .int .u8 98)] = some fansC := by kernel_rfl
theorem nxtAns : nxt fansB false = (0, [97], [98], false) := by decide
theorem byAns : ByL fansB := by unfold ByL fansB; decide
/-- a constant's bytes, marked as a constant's -/
theorem markAns (w : World) : KLies KB (.slice (some ⟨w.heap.size, 0, none⟩) 6 6) fansB (w.alloc (.cells fansC 5 (6, 7))) := by
  refine .inr ⟨_, _, rfl, Nat.le_refl _, fun i a hi => ⟨rfl, fun j u hu => ?_⟩⟩
  have h := okB.flat_get fansB i a j u hi hu
  have e : fansC.toList = KB.flat fansB := rfl
  rw [show (⟨w.heap.size, 0, none⟩ : Addr).off + i * KB.n + j = i * KB.n + j by show 0 + i * KB.n + j = _; omega]
  show (w.alloc (.cells fansC 5 (6, 7))).cell? ⟨w.heap.size, i * KB.n + j, none⟩ = some u
  rw [World.cell?_alloc_mark, ← Array.getElem?_toList, e]
  exact h
set_option maxHeartbeats 2000000 in
theorem answers10 (w : World) : Calls Try.prog 8 #[] w fun e w' => e = .returned (.bool true) ∧ Below w.heap.size w w' := by
  have HC1 := Lib.hid (fnew_any w)
  have HSZ := Lib.hid (Nat.le_refl w.heap.size)
  go_enter Try.func8, Try.ntmps8
  go_wp2_with (go_at_call 9; refine HC1.out.mono ?_; rintro e W1 ⟨rfl, hr, hb⟩; refine Hid.out ?_)
  have HR1 := Lib.hid hr
  have HB1 := Lib.hid hb
  clear hr hb HC1
  obtain ⟨b, hbb⟩ : ∃ b, b = w.heap.size := ⟨_, rfl⟩
  rw [← hbb] at HR1 ⊢
  have HBB := Lib.hid hbb
  clear hbb
  refine Lib.hid ?_
  have kc := fun (w : World) (C : Array Value) (n c : Nat) => Lib.run_convert_bytes_const (P := Try.prog) w 22 5 C n c Try.underlying22 Try.underlying5
  obtain ⟨W2, hW2⟩ : ∃ W2, W2 = W1.alloc (.cells fansC 5 (6, 7)) := ⟨_, rfl⟩
  have HR2 := Lib.hid (show RdA b (.slice none 0 0) [] false W2 by rw [hW2]; exact HR1.out.below (below1 W1 _))
  have HK2 := Lib.hid (show KLies KB (.slice (some ⟨W1.heap.size, 0, none⟩) 6 6) fansB W2 by rw [hW2]; exact markAns W1)
  have HB2 := Lib.hid (show Below w.heap.size w W2 by rw [hW2]; exact HB1.out.trans ((below1 W1 _).mono HB1.out.size))
  have HC2 := Lib.hid (ffeed_any b (.slice none 0 0) [] false _ fansB (by decide) W2 HR2.out HK2.out)
  rw [hW2] at HC2
  have HWW := Lib.hid hW2
  clear hW2
  go_wp2_with (go_at_call 10; refine HC2.out.mono ?_; rintro e W3 ⟨rfl, v3, hr, hf⟩; refine Hid.out ?_)
  rw [← HWW.out] at hf
  have HR3 := Lib.hid (show RdA b v3 fansB false W3 from hr)
  have HB3 := Lib.hid (hf.old HB2.out (Nat.le_of_eq HBB.out.symm))
  clear hr hf HC2 HR2 HK2 HB2 HR1 HB1 kc HWW
  have HC3 := Lib.hid (fnext_any b v3 fansB false (by decide) byAns W3 HR3.out)
  rw [nxtAns] at HC3
  refine Lib.hid ?_
  go_wp2_with (go_at_call 11; refine HC3.out.mono ?_; rintro e W4 ⟨x, v4, rfl, hx, _, hr, hf⟩; refine Hid.out ?_)
  have HR4 := Lib.hid (show RdA b v4 [98] false W4 from hr)
  have HB4 := Lib.hid (hf.old HB3.out (Nat.le_of_eq HBB.out.symm))
  have cv : (convert 22 9 x).run Try.prog W4 = .ok (.string { data := #[97] }) W4 := conv_lies (hx.lies okB) (by unfold ByL; decide)
  clear hr hf HC3 HR3 HB3 hx
  have HC4 := Lib.hid (fleft_any b v4 [98] false (by decide) W4 HR4.out)
  refine Lib.hid ?_
  go_wp2_with (go_at_call 13; refine HC4.out.mono ?_; rintro e W5 ⟨rfl, hb⟩)
  go_ret
  exact ⟨rfl, HB4.out.trans (hb.mono HB4.out.size)⟩
end Go.Proofs.Ytdcekbmoihmjkaa
