/-
  What a program that does nothing does not answer; slices of ints and of strings that come in; two slices of the same ints.
-/
import Derived.Test.YthccfbjhbbheeaaPipAll
import Derived.Test.YthccfbjhbbheeaaFrmTl
import Derived.Test.YthccfbjhbbheeaaKArg2
import Derived.ChangeMaps5
namespace Go.Proofs.Ythccfbjhbbheeaa
set_option maxRecDepth 20000
open Go.RowKit Go.Conc Go.ChangeShapes Go.WideShapes Go.ChangeAt

/-- a queue of ints, of strings -/
abbrev PiI (b c cap : Nat) (es : List (Nat × Int)) (W : World) : Prop := PipA 3 44 vI b c cap es W
abbrev PiS (b c cap : Nat) (es : List (Nat × ByteArray)) (W : World) : Prop := PipA 9 51 vS b c cap es W
/-- what a queue's call leaves, for one whose channel is new -/
theorem below_chan {B c : Nat} {w0 w W : World} (h : Below B w0 w) (hg : w.grownBy W (some c)) (hB : B ≤ w.heap.size) (hc : B ≤ c) : Below B w0 W :=
  h.grown hg hB (fun k e => by injection e with e; omega)
theorem cell_chan {w : World} {c o cap s r : Nat} {B : Array Value} (h : w.heap[c]? = some (.chan cap B false s r false)) : w.cell? ⟨c, o, none⟩ = none := by
  simp [World.cell?, h]
/-- elements that lie in memory are none of a queue's channel -/
theorem KLies.chanOther {α β : Type} {K : Kd β} {T PT : TypeId} {V : α → Value} {b c cap : Nat} {es : List (Nat × α)} {w W : World} {v : Value} {l : List β} (h : KLies K v l w) (hg : w.grownBy W (some c)) (hp : PipA T PT V b c cap es w) : KLies K v l W := by
  rcases h with h | ⟨ad, cp, e1, e2, e3⟩
  · exact .inl h
  · refine .inr ⟨ad, cp, e1, e2, fun i a hi => ⟨(e3 i a hi).1, fun j u hu => ?_⟩⟩
    have h1 := (e3 i a hi).2 j u hu
    refine hg.cell h1 (fun e => ?_)
    injection e with e
    have e : ad.block = c := e
    obtain ⟨s, r, hc⟩ := hp.chan
    rw [e, cell_chan hc] at h1
    cases h1
set_option maxHeartbeats 1000000 in
theorem answers11 (w : World) : Calls Try.prog 7 #[] w fun e w' => e = .returned (.bool true) ∧ Below w.heap.size w w' := by
  have HC0 := Lib.hid (newI_any 1 w)
  go_enter Try.func7, Try.ntmps7
  go_wp2_with (go_at_call 8; refine HC0.out.mono ?_; rintro e W1 ⟨b, c, rfl, hp, hb, hbb, hcc⟩; refine Hid.out ?_)
  have HB1 := Lib.hid hb
  have HCC := Lib.hid hcc
  have HC1 := Lib.hid (PutI_room b c 1 [] 5 W1 hp (by decide))
  clear hp hb hbb hcc HC0
  refine Lib.hid ?_
  go_wp2_with (go_at_call 10; refine HC1.out.mono ?_; rintro e W2 ⟨rfl, k, hp, hg⟩; refine Hid.out ?_)
  have HB2 := Lib.hid (below_chan HB1.out hg HB1.out.size HCC.out)
  have HC2 := Lib.hid (PutI_full b c 1 _ 6 W2 hp (by simp))
  clear hp hg HC1 HB1
  refine Lib.hid ?_
  go_wp2_with (go_at_call 10; refine HC2.out.mono ?_; rintro e W3 ⟨rfl, hp, hg⟩; refine Hid.out ?_)
  have HB3 := Lib.hid (below_chan HB2.out hg HB2.out.size HCC.out)
  have HC3 := Lib.hid (LenI_any b c 1 _ W3 hp)
  clear hp hg HC2 HB2
  refine Lib.hid ?_
  go_wp2_with (go_at_call 11; refine HC3.out.mono ?_; rintro e W4 ⟨rfl, rfl⟩)
  go_ret
  exact ⟨rfl, HB3.out⟩
section
variable {H : Type} {enc : TypeId × Value → H} {W : World} {base : Nat} {sp : Nat → Bool} {held : Bool}
theorem trod_intK (fuel : Nat) (cs : List Value) (x : DataW H × List MemPlace) (h : DataW.trod enc Try.prog W base sp held fuel 3 cs = some x) : ∃ a : Int, cs = KZ.cells a ∧ True := by
  obtain ⟨k, e0, _, w3⟩ := DataW.trod_int Try.underlying3 h
  exact ⟨k, e0, trivial⟩
theorem cIntK : Try.prog.cellsOf 3 = 1 := by kernel_rfl
theorem open_intsK {v : Value} {d : DataW H} {p : List MemPlace} {b : Nat} (hv : Value.okWide Try.prog W .any b 22 v) (h : DataW.Trod enc Try.prog W base sp held 22 v d p) :
    ∃ l : List Int, KLies KZ v l W ∧ ∀ a ∈ l, True := open_kind KZ okZ (fun _ => True) cIntK trod_intK hv h
theorem trod_strK (fuel : Nat) (cs : List Value) (x : DataW H × List MemPlace) (h : DataW.trod enc Try.prog W base sp held fuel 9 cs = some x) : ∃ a : ByteArray, cs = KT.cells a ∧ True := by
  obtain ⟨s, e0, _, w3⟩ := DataW.trod_string Try.underlying9 h
  exact ⟨s, e0, trivial⟩
theorem cStrK : Try.prog.cellsOf 9 = 1 := by kernel_rfl
theorem open_strsK {v : Value} {d : DataW H} {p : List MemPlace} {b : Nat} (hv : Value.okWide Try.prog W .any b 33 v) (h : DataW.Trod enc Try.prog W base sp held 33 v d p) :
    ∃ l : List ByteArray, KLies KT v l W ∧ ∀ a ∈ l, True := open_kind KT okT (fun _ => True) cStrK trod_strK hv h
end
theorem readInts : Try.prog.readableRec 22 = true := by kernel_rfl
theorem rowInts : 22 < Try.prog.types.size := of_decide_eq_true (by kernel_rfl)
theorem readStrs : Try.prog.readableRec 33 = true := by kernel_rfl
theorem rowStrs : 33 < Try.prog.types.size := of_decide_eq_true (by kernel_rfl)
/-- a cell of a slice of ints, of strings -/
theorem cellZ {p : Option Addr} {n c : Nat} {l : List Int} {W : World} {i : Nat} {x : Int} (h : KLies KZ (.slice p n c) l W) (hi : l[i]? = some x) : ∃ bb o, p = some ⟨bb, o, none⟩ ∧ W.cell? ⟨bb, o + i, none⟩ = some (.int .i64 x) := by
  obtain ⟨bb, o, e, hr⟩ := h.at hi
  refine ⟨bb, o, e, ?_⟩
  have := hr 0 (.int .i64 x) rfl
  rwa [show o + i * 1 + 0 = o + i by omega] at this
theorem cellT {p : Option Addr} {n c : Nat} {l : List ByteArray} {W : World} {i : Nat} {x : ByteArray} (h : KLies KT (.slice p n c) l W) (hi : l[i]? = some x) : ∃ bb o, p = some ⟨bb, o, none⟩ ∧ W.cell? ⟨bb, o + i, none⟩ = some (.string x) := by
  obtain ⟨bb, o, e, hr⟩ := h.at hi
  refine ⟨bb, o, e, ?_⟩
  have := hr 0 (.string x) rfl
  rwa [show o + i * 1 + 0 = o + i by omega] at this
end Go.Proofs.Ythccfbjhbbheeaa
