/-
  New of a queue; its Put, Get and Len. Written by tools/mkpnew.py.
-/
import Derived.Test.YthccfbjhbbheeaaPipPut
import Derived.Test.YthccfbjhbbheeaaKArg2
import Derived.Conc.LoneSelectN
namespace Go.Proofs.Ythccfbjhbbheeaa
set_option maxRecDepth 20000
open Go.RowKit Go.Conc

/-- the value of an element -/
abbrev vI : Int → Value := fun x => .int .i64 x
abbrev vS : ByteArray → Value := fun x => .string x
/-- the room that New gives -/
def roomOf (m : Int) : Nat := (max 0 (min m 4096)).toNat
theorem roomOf_int (m : Int) : (roomOf m : Int) = max 0 (min m 4096) := by unfold roomOf; omega
theorem roomOf_le (m : Int) : roomOf m ≤ 4096 := by unfold roomOf; omega
theorem grown_after {w w1 W : World} {row : Option Nat} (hb : Below w.heap.size w w1) (hg : w1.grownBy W row) : w.grownBy W row :=
  ⟨hg.os.trans hb.os, hg.tape.trans hb.tape, hg.output.trans hb.output, Nat.le_trans hb.size hg.size, fun k hk hne => (hg.block k (Nat.lt_of_lt_of_le hk hb.size) hne).trans (hb.block k hk)⟩
theorem grown_before {w w1 W : World} {row : Option Nat} (hg : w.grownBy w1 row) (hb : Below w1.heap.size w1 W) : w.grownBy W row :=
  ⟨hb.os.trans hg.os, hb.tape.trans hg.tape, hb.output.trans hg.output, Nat.le_trans hg.size hb.size, fun k hk hne => (hb.block k (Nat.lt_of_lt_of_le hk hg.size)).trans (hg.block k hk hne)⟩
theorem grown_twice {w w1 W : World} {row : Option Nat} (h1 : w.grownBy w1 row) (h2 : w1.grownBy W row) : w.grownBy W row :=
  ⟨h2.os.trans h1.os, h2.tape.trans h1.tape, h2.output.trans h1.output, Nat.le_trans h1.size h2.size, fun k hk hne => (h2.block k (Nat.lt_of_lt_of_le hk h1.size) hne).trans (h1.block k hk hne)⟩

theorem mkI (w : World) (n : Nat) (hn : n ≤ 4096) : (Instr.makeChan 42 (.int .i64 (n : Int))).run Try.prog w = .ok (.chan (some w.heap.size)) (w.alloc (.chan n #[] false 0 0 false)) := by
  have h : (Try.prog.info? 45).map (·.bytes) = some 8 := by kernel_rfl
  obtain ⟨i, hi, hb⟩ := Option.map_eq_some_iff.1 h
  exact run_makeChan (P := Try.prog) (w := w) Try.underlying42 hi .i64 n (by omega) (by rw [hb]; omega)
set_option maxHeartbeats 1000000 in
theorem newI_any (m : Int) (w : World) : Calls Try.prog 8 #[.int .i64 m] w fun e w' => ∃ b c, e = .returned (.pointer (some ⟨b, 0, none⟩)) ∧ PipA 3 44 vI b c (roomOf m) [] w' ∧ Below w.heap.size w w' ∧ w.heap.size ≤ b ∧ w.heap.size ≤ c := by
  have hr := roomOf_int m
  have hm := mkI w (roomOf m) (roomOf_le m)
  rw [hr] at hm
  go_enter Try.func8, Try.ntmps8
  go_wp2
  go_ret
  have h2 := below1 (w.alloc (.chan (roomOf m) #[] false 0 0 false)) (.cells #[.chan (some w.heap.size)] 44)
  exact ⟨w.heap.size + 1, w.heap.size, rfl, ⟨Blk.new2 _ _ _ _, ⟨0, 0, (h2.block _ (by simp)).trans (heap_alloc_new _ _)⟩, fun e he => (by cases he), Nat.zero_le _⟩, (below1 _ _).trans (h2.mono (by simp)), by omega, by omega⟩
set_option maxHeartbeats 1000000 in
theorem PutI_room (b c cap : Nat) (es : List (Nat × Int)) (x : Int) (w : World) (h : PipA 3 44 vI b c cap es w) (hr : es.length < cap) :
    Calls Try.prog 10 #[.pointer (some ⟨b, 0, none⟩), .int .i64 x] w fun e w' => e = .returned (.bool true) ∧ ∃ k, PipA 3 44 vI b c cap (es ++ [(k, x)]) w' ∧ w.grownBy w' (some c) := by
  have h1 := below1 w (.cells #[.int .i64 x] 3)
  have HC := Lib.hid (show Calls Try.prog 20 #[.pointer (some ⟨b, 0, none⟩), .pointer (some ⟨w.heap.size, 0, none⟩)] (w.alloc (.cells #[.int .i64 x] 3)) _ from putI_room b c cap es w.heap.size x (w.alloc (.cells #[.int .i64 x] 3)) (h.below h1) (Blk.new _ _ _) hr)
  have HB := Lib.hid h1
  clear h hr h1
  go_enter Try.func10, Try.ntmps10
  go_wp2_with (go_at_call 20; refine HC.out.mono ?_; rintro e W1 ⟨rfl, hp, hg⟩)
  go_ret
  exact ⟨rfl, _, hp, grown_after HB.out hg⟩
set_option maxHeartbeats 1000000 in
theorem PutI_full (b c cap : Nat) (es : List (Nat × Int)) (x : Int) (w : World) (h : PipA 3 44 vI b c cap es w) (hr : ¬ es.length < cap) :
    Calls Try.prog 10 #[.pointer (some ⟨b, 0, none⟩), .int .i64 x] w fun e w' => e = .returned (.bool false) ∧ PipA 3 44 vI b c cap es w' ∧ w.grownBy w' (some c) := by
  have h1 := below1 w (.cells #[.int .i64 x] 3)
  have hp := h.below h1
  have HC := Lib.hid (show Calls Try.prog 20 #[.pointer (some ⟨b, 0, none⟩), .pointer (some ⟨w.heap.size, 0, none⟩)] (w.alloc (.cells #[.int .i64 x] 3)) _ from putI_full b c cap es w.heap.size (w.alloc (.cells #[.int .i64 x] 3)) hp hr)
  have HB := Lib.hid h1
  have HP := Lib.hid hp
  clear h hr h1 hp
  go_enter Try.func10, Try.ntmps10
  go_wp2_with (go_at_call 20; refine HC.out.mono ?_; rintro e W1 ⟨rfl, rfl⟩)
  go_ret
  exact ⟨rfl, HP.out, grown_after HB.out (World.grownBy.refl _ _)⟩
theorem PutI_nil (x : Int) (w : World) : Calls Try.prog 10 #[.pointer none, .int .i64 x] w fun e w' => e = .returned (.bool false) ∧ Below w.heap.size w w' := by
  have HB := Lib.hid (below1 w (.cells #[.int .i64 x] 3))
  go_enter Try.func10, Try.ntmps10
  go_wp2
  go_ret
  exact ⟨rfl, HB.out⟩
set_option maxHeartbeats 1000000 in
theorem GetI_some (b c cap : Nat) (es : List (Nat × Int)) (k : Nat) (x : Int) (w : World) (h : PipA 3 44 vI b c cap ((k, x) :: es) w) :
    Calls Try.prog 9 #[.pointer (some ⟨b, 0, none⟩)] w fun e w' => e = .returned (.tuple #[.int .i64 x, .bool true]) ∧ PipA 3 44 vI b c cap es w' ∧ w.grownBy w' (some c) := by
  have HC := Lib.hid (getI_some b c cap es k x w h)
  clear h
  go_enter Try.func9, Try.ntmps9
  go_wp2_with (go_at_call 19; refine HC.out.mono ?_; rintro e W1 ⟨rfl, he, hp, hg⟩; refine Hid.out ?_)
  have k0 : W1.cell? ⟨k, 0, none⟩ = some (.int .i64 x) := (cell_of_row W1 k 0 _ _ _ he).trans rfl
  have HP := Lib.hid (show PipA 3 44 vI b c cap es W1 ∧ w.grownBy W1 (some c) from ⟨hp, hg⟩)
  clear he hp hg HC
  unfold pv
  refine Lib.hid ?_
  go_wp2_with fail
  go_ret2
  exact ⟨rfl, HP.out⟩
set_option maxHeartbeats 1000000 in
theorem GetI_none (b c cap : Nat) (w : World) (h : PipA 3 44 vI b c cap [] w) :
    Calls Try.prog 9 #[.pointer (some ⟨b, 0, none⟩)] w fun e w' => e = .returned (.tuple #[.int .i64 0, .bool false]) ∧ w' = w := by
  have HC := Lib.hid (getI_none b c cap w h)
  clear h
  go_enter Try.func9, Try.ntmps9
  go_wp2_with (go_at_call 19; refine HC.out.mono ?_; rintro e W1 ⟨rfl, rfl⟩)
  go_ret2
  exact ⟨rfl, rfl⟩
theorem GetI_nil (w : World) : Calls Try.prog 9 #[.pointer none] w fun e w' => e = .returned (.tuple #[.int .i64 0, .bool false]) ∧ w' = w := by
  go_enter Try.func9, Try.ntmps9
  go_wp2
  go_ret2
  exact ⟨rfl, rfl⟩
theorem LenI_any (b c cap : Nat) (es : List (Nat × Int)) (w : World) (h : PipA 3 44 vI b c cap es w) :
    Calls Try.prog 11 #[.pointer (some ⟨b, 0, none⟩)] w fun e w' => e = .returned (.int .i64 (es.length : Int)) ∧ w' = w := by
  obtain ⟨s, r, hc⟩ := h.chan
  have c0 : w.cell? ⟨b, 0, none⟩ = some (.chan (some c)) := (cell_of_row w b 0 _ _ _ h.box).trans rfl
  have hlen := fun ty => run_len_chan (P := Try.prog) 42 ty Try.underlying42 hc
  rw [chb_size] at hlen
  generalize es.length = n at *
  clear hc h
  go_enter Try.func11, Try.ntmps11
  go_wp2
  go_ret
  exact ⟨rfl, rfl⟩
theorem LenI_nil (w : World) : Calls Try.prog 11 #[.pointer none] w fun e w' => e = .returned (.int .i64 0) ∧ w' = w := by
  go_enter Try.func11, Try.ntmps11
  go_wp2
  go_ret
  exact ⟨rfl, rfl⟩

theorem mkS (w : World) (n : Nat) (hn : n ≤ 4096) : (Instr.makeChan 49 (.int .i64 (n : Int))).run Try.prog w = .ok (.chan (some w.heap.size)) (w.alloc (.chan n #[] false 0 0 false)) := by
  have h : (Try.prog.info? 53).map (·.bytes) = some 8 := by kernel_rfl
  obtain ⟨i, hi, hb⟩ := Option.map_eq_some_iff.1 h
  exact run_makeChan (P := Try.prog) (w := w) Try.underlying49 hi .i64 n (by omega) (by rw [hb]; omega)
set_option maxHeartbeats 1000000 in
theorem newS_any (m : Int) (w : World) : Calls Try.prog 14 #[.int .i64 m] w fun e w' => ∃ b c, e = .returned (.pointer (some ⟨b, 0, none⟩)) ∧ PipA 9 51 vS b c (roomOf m) [] w' ∧ Below w.heap.size w w' ∧ w.heap.size ≤ b ∧ w.heap.size ≤ c := by
  have hr := roomOf_int m
  have hm := mkS w (roomOf m) (roomOf_le m)
  rw [hr] at hm
  go_enter Try.func14, Try.ntmps14
  go_wp2
  go_ret
  have h2 := below1 (w.alloc (.chan (roomOf m) #[] false 0 0 false)) (.cells #[.chan (some w.heap.size)] 51)
  exact ⟨w.heap.size + 1, w.heap.size, rfl, ⟨Blk.new2 _ _ _ _, ⟨0, 0, (h2.block _ (by simp)).trans (heap_alloc_new _ _)⟩, fun e he => (by cases he), Nat.zero_le _⟩, (below1 _ _).trans (h2.mono (by simp)), by omega, by omega⟩
set_option maxHeartbeats 1000000 in
theorem PutS_room (b c cap : Nat) (es : List (Nat × ByteArray)) (x : ByteArray) (w : World) (h : PipA 9 51 vS b c cap es w) (hr : es.length < cap) :
    Calls Try.prog 15 #[.pointer (some ⟨b, 0, none⟩), .string x] w fun e w' => e = .returned (.bool true) ∧ ∃ k, PipA 9 51 vS b c cap (es ++ [(k, x)]) w' ∧ w.grownBy w' (some c) := by
  have h1 := below1 w (.cells #[.string x] 9)
  have HC := Lib.hid (show Calls Try.prog 21 #[.pointer (some ⟨b, 0, none⟩), .pointer (some ⟨w.heap.size, 0, none⟩)] (w.alloc (.cells #[.string x] 9)) _ from putS_room b c cap es w.heap.size x (w.alloc (.cells #[.string x] 9)) (h.below h1) (Blk.new _ _ _) hr)
  have HB := Lib.hid h1
  clear h hr h1
  go_enter Try.func15, Try.ntmps15
  go_wp2_with (go_at_call 21; refine HC.out.mono ?_; rintro e W1 ⟨rfl, hp, hg⟩)
  go_ret
  exact ⟨rfl, _, hp, grown_after HB.out hg⟩
set_option maxHeartbeats 1000000 in
theorem PutS_full (b c cap : Nat) (es : List (Nat × ByteArray)) (x : ByteArray) (w : World) (h : PipA 9 51 vS b c cap es w) (hr : ¬ es.length < cap) :
    Calls Try.prog 15 #[.pointer (some ⟨b, 0, none⟩), .string x] w fun e w' => e = .returned (.bool false) ∧ PipA 9 51 vS b c cap es w' ∧ w.grownBy w' (some c) := by
  have h1 := below1 w (.cells #[.string x] 9)
  have hp := h.below h1
  have HC := Lib.hid (show Calls Try.prog 21 #[.pointer (some ⟨b, 0, none⟩), .pointer (some ⟨w.heap.size, 0, none⟩)] (w.alloc (.cells #[.string x] 9)) _ from putS_full b c cap es w.heap.size (w.alloc (.cells #[.string x] 9)) hp hr)
  have HB := Lib.hid h1
  have HP := Lib.hid hp
  clear h hr h1 hp
  go_enter Try.func15, Try.ntmps15
  go_wp2_with (go_at_call 21; refine HC.out.mono ?_; rintro e W1 ⟨rfl, rfl⟩)
  go_ret
  exact ⟨rfl, HP.out, grown_after HB.out (World.grownBy.refl _ _)⟩
theorem PutS_nil (x : ByteArray) (w : World) : Calls Try.prog 15 #[.pointer none, .string x] w fun e w' => e = .returned (.bool false) ∧ Below w.heap.size w w' := by
  have HB := Lib.hid (below1 w (.cells #[.string x] 9))
  go_enter Try.func15, Try.ntmps15
  go_wp2
  go_ret
  exact ⟨rfl, HB.out⟩
set_option maxHeartbeats 1000000 in
theorem GetS_some (b c cap : Nat) (es : List (Nat × ByteArray)) (k : Nat) (x : ByteArray) (w : World) (h : PipA 9 51 vS b c cap ((k, x) :: es) w) :
    Calls Try.prog 17 #[.pointer (some ⟨b, 0, none⟩)] w fun e w' => e = .returned (.tuple #[.string x, .bool true]) ∧ PipA 9 51 vS b c cap es w' ∧ w.grownBy w' (some c) := by
  have HC := Lib.hid (getS_some b c cap es k x w h)
  clear h
  go_enter Try.func17, Try.ntmps17
  go_wp2_with (go_at_call 22; refine HC.out.mono ?_; rintro e W1 ⟨rfl, he, hp, hg⟩; refine Hid.out ?_)
  have k0 : W1.cell? ⟨k, 0, none⟩ = some (.string x) := (cell_of_row W1 k 0 _ _ _ he).trans rfl
  have HP := Lib.hid (show PipA 9 51 vS b c cap es W1 ∧ w.grownBy W1 (some c) from ⟨hp, hg⟩)
  clear he hp hg HC
  unfold pv
  refine Lib.hid ?_
  go_wp2_with fail
  go_ret2
  exact ⟨rfl, HP.out⟩
set_option maxHeartbeats 1000000 in
theorem GetS_none (b c cap : Nat) (w : World) (h : PipA 9 51 vS b c cap [] w) :
    Calls Try.prog 17 #[.pointer (some ⟨b, 0, none⟩)] w fun e w' => e = .returned (.tuple #[.string ⟨#[]⟩, .bool false]) ∧ w' = w := by
  have HC := Lib.hid (getS_none b c cap w h)
  clear h
  go_enter Try.func17, Try.ntmps17
  go_wp2_with (go_at_call 22; refine HC.out.mono ?_; rintro e W1 ⟨rfl, rfl⟩)
  go_ret2
  exact ⟨rfl, rfl⟩
theorem GetS_nil (w : World) : Calls Try.prog 17 #[.pointer none] w fun e w' => e = .returned (.tuple #[.string ⟨#[]⟩, .bool false]) ∧ w' = w := by
  go_enter Try.func17, Try.ntmps17
  go_wp2
  go_ret2
  exact ⟨rfl, rfl⟩
theorem LenS_any (b c cap : Nat) (es : List (Nat × ByteArray)) (w : World) (h : PipA 9 51 vS b c cap es w) :
    Calls Try.prog 18 #[.pointer (some ⟨b, 0, none⟩)] w fun e w' => e = .returned (.int .i64 (es.length : Int)) ∧ w' = w := by
  obtain ⟨s, r, hc⟩ := h.chan
  have c0 : w.cell? ⟨b, 0, none⟩ = some (.chan (some c)) := (cell_of_row w b 0 _ _ _ h.box).trans rfl
  have hlen := fun ty => run_len_chan (P := Try.prog) 49 ty Try.underlying49 hc
  rw [chb_size] at hlen
  generalize es.length = n at *
  clear hc h
  go_enter Try.func18, Try.ntmps18
  go_wp2
  go_ret
  exact ⟨rfl, rfl⟩
theorem LenS_nil (w : World) : Calls Try.prog 18 #[.pointer none] w fun e w' => e = .returned (.int .i64 0) ∧ w' = w := by
  go_enter Try.func18, Try.ntmps18
  go_wp2
  go_ret
  exact ⟨rfl, rfl⟩
end Go.Proofs.Ythccfbjhbbheeaa
