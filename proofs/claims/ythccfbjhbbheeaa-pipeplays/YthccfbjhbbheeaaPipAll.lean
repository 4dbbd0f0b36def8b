/-
  All of a queue: each element is taken and put back last. Written by tools/mkpall.py.
-/
import Derived.Test.YthccfbjhbbheeaaPipNew
import Derived.Test.YthccfbjhbbheeaaPackAct
namespace Go.Proofs.Ythccfbjhbbheeaa
set_option maxRecDepth 20000
open Go.RowKit Go.Conc

/-- ints, strings -/
abbrev KZ : Kd Int := ⟨3, 22, 1, 8, fun x => [.int .i64 x]⟩
theorem okZ : KZ.Ok where
  pos := by decide
  len := fun _ => rfl
  one := fun a u hu => by simp only [List.mem_cons, List.not_mem_nil, or_false] at hu; subst hu; rfl
  under := Try.underlying22
  info := infoOf (by kernel_rfl) (by kernel_rfl) (by kernel_rfl)
  small := by decide
  room1 := by decide
abbrev KT : Kd ByteArray := ⟨9, 33, 1, 16, fun x => [.string x]⟩
theorem okT : KT.Ok where
  pos := by decide
  len := fun _ => rfl
  one := fun a u hu => by simp only [List.mem_cons, List.not_mem_nil, or_false] at hu; subst hu; rfl
  under := Try.underlying33
  info := infoOf (by kernel_rfl) (by kernel_rfl) (by kernel_rfl)
  small := by decide
  room1 := by decide
theorem zeroZ : ((Try.prog.info? KZ.T).bind (·.zero)).map (·.cells) = some #[Value.int .i64 0] := by kernel_rfl
theorem fillZ (x : Int) : Instr.fill (fun i' => some (i' * 1, 1)) ((Array.range (1 * 1)).map ((#[Value.int .i64 0] : Array Value)[· % (#[Value.int .i64 0] : Array Value).size]!)) [(0, .int .i64 x)] = some #[.int .i64 x] := by kernel_rfl
theorem zeroT : ((Try.prog.info? KT.T).bind (·.zero)).map (·.cells) = some #[Value.string ⟨#[]⟩] := by kernel_rfl
theorem fillT (x : ByteArray) : Instr.fill (fun i' => some (i' * 1, 1)) ((Array.range (1 * 1)).map ((#[Value.string ⟨#[]⟩] : Array Value)[· % (#[Value.string ⟨#[]⟩] : Array Value).size]!)) [(0, .string x)] = some #[.string x] := by kernel_rfl
section
variable {α : Type} {T PT : TypeId} {V : α → Value} {b c cap : Nat} {es es' : List (Nat × α)} {w W W' : World}
/-- a queue that only its channel has changed of -/
theorem PipA.carry (h : PipA T PT V b c cap es w) (hg : w.grownBy W (some c)) (hc : ∃ s r, W.heap[c]? = some (.chan cap (chb es') false s r false)) (he : ∀ e ∈ es', e ∈ es) (hf : es'.length ≤ cap) : PipA T PT V b c cap es' W :=
  ⟨h.other hg h.box, hc, fun e hm => h.other hg (h.elem e (he e hm)), hf⟩
/-- where a queue turns: what is taken first is put back last -/
def turnAt (es : List (Nat × α)) (r : Nat) : List (Nat × α) := es.drop r ++ es.take r
theorem turnAt_cons {r k : Nat} {x : α} (h : es[r]? = some (k, x)) : turnAt es r = (k, x) :: (es.drop (r + 1) ++ es.take r) := by
  obtain ⟨hr, e⟩ := List.getElem?_eq_some_iff.1 h
  unfold turnAt
  rw [List.drop_eq_getElem_cons hr, e]
  rfl
theorem turnAt_next {r k : Nat} {x : α} (h : es[r]? = some (k, x)) : es.drop (r + 1) ++ es.take r ++ [(k, x)] = turnAt es (r + 1) := by
  unfold turnAt
  rw [List.take_add_one, h]
  simp
theorem turnAt_mem {r : Nat} : ∀ e ∈ turnAt es r, e ∈ es := fun e he => by
  rcases List.mem_append.1 he with he | he
  · exact List.mem_of_mem_drop he
  · exact List.mem_of_mem_take he
theorem turnAt_len {r : Nat} : (turnAt es r).length = es.length := by
  unfold turnAt
  rw [List.length_append, List.length_drop, List.length_take]
  omega
theorem turnAt_zero : turnAt es 0 = es := by simp [turnAt]
theorem turnAt_all {r : Nat} (h : r = es.length) : turnAt es r = es := by simp [turnAt, h]
/-- the elements that have been taken -/
def valsAt (es : List (Nat × α)) (r : Nat) : List α := (es.take r).map Prod.snd
theorem vals_next {r k : Nat} {x : α} (h : es[r]? = some (k, x)) : valsAt es r ++ [x] = valsAt es (r + 1) := by
  unfold valsAt
  rw [List.take_add_one, h]
  simp
theorem vals_len {r : Nat} : (valsAt es r).length ≤ r := by
  unfold valsAt
  rw [List.length_map, List.length_take]
  omega
theorem vals_all {r : Nat} (h : r = es.length) : valsAt es r = es.map Prod.snd := by simp [valsAt, h]
/-- a slice of one's own is none of a queue's channel -/
theorem KOwns.chanOther {β : Type} {K : Kd β} {base : Nat} {v : Value} {l : List β} (h : KOwns K base v l w) (hg : w.grownBy W (some c)) (hp : PipA T PT V b c cap es w) : KOwns K base v l W := by
  rcases h with ⟨h1, h2 | ⟨g, cap', cur, e1, e2, e3, e4⟩⟩
  · exact ⟨h1, .inl h2⟩
  · exact ⟨h1, .inr ⟨g, cap', cur, e1, e2, Blk.other (c := c) e3 hg (hp.apart e3), e4⟩⟩
/-- the channel is there -/
theorem grown_far {row : Option Nat} (hg : w.grownBy W (some c)) (h1 : W.grownBy W' row) (hr : ∀ k, row = some k → w.heap.size ≤ k) : w.grownBy W' (some c) :=
  ⟨h1.os.trans hg.os, h1.tape.trans hg.tape, h1.output.trans hg.output, Nat.le_trans hg.size h1.size, fun k hk hne => (h1.block k (Nat.lt_of_lt_of_le hk hg.size) (fun e => by have := hr k e.symm; omega)).trans (hg.block k hk hne)⟩
end

theorem AllI_nil (w : World) : Calls Try.prog 13 #[.pointer none] w fun e w' => e = .returned (.slice none 0 0) ∧ w' = w := by
  have HC := Lib.hid (LenI_nil w)
  go_enter Try.func13, Try.ntmps13
  go_wp2_with (go_at_call 11; refine HC.out.mono ?_; rintro e W1 ⟨rfl, rfl⟩; refine Hid.out ?_)
  refine Lib.hid ?_
  go_wp2_with fail
  go_loopg [8, 3] 0 (fun q s8 s3 wr => s8 = .int .i64 0 ∧ s3 = .slice none 0 0 ∧ wr = W1)
  case atStart => exact ⟨rfl, rfl, rfl⟩
  case round =>
    obtain ⟨rfl, rfl, rfl⟩ := hrel
    go_wp2_with fail
    go_ret
    exact ⟨rfl, rfl⟩
set_option maxHeartbeats 2000000 in
theorem AllI_any (b c cap : Nat) (es : List (Nat × Int)) (hlen : es.length ≤ 1000000) (w : World) (h : PipA 3 44 vI b c cap es w) :
    Calls Try.prog 13 #[.pointer (some ⟨b, 0, none⟩)] w fun e w' => ∃ v, e = .returned v ∧ KOwns KZ w.heap.size v (es.map Prod.snd) w' ∧ PipA 3 44 vI b c cap es w' ∧ w.grownBy w' (some c) := by
  have HC := Lib.hid (LenI_any b c cap es w h)
  have HP := Lib.hid h
  have HLEN := Lib.hid hlen
  clear h hlen
  obtain ⟨n, hn⟩ : ∃ n, n = es.length := ⟨_, rfl⟩
  rw [← hn] at HC
  have HN := Lib.hid hn
  clear hn
  go_enter Try.func13, Try.ntmps13
  go_wp2_with (go_at_call 11; refine HC.out.mono ?_; rintro e W1 ⟨rfl, rfl⟩; refine Hid.out ?_)
  clear HC
  refine Lib.hid ?_
  go_wp2_with fail
  go_loopg [8, 3] n (fun q s8 s3 wr => ∃ r : Nat, r + q = n ∧ s8 = .int .i64 r ∧ KOwns KZ W1.heap.size s3 (valsAt es r) wr ∧ PipA 3 44 vI b c cap (turnAt es r) wr ∧ W1.grownBy wr (some c))
  case atStart => exact ⟨0, by omega, rfl, KOwns.nil _ _, by rw [turnAt_zero]; exact HP.out, World.grownBy.refl _ _⟩
  case round =>
    obtain ⟨r, hr, rfl, ho, hp, hg⟩ := hrel
    have HO := Lib.hid ho
    have HQ := Lib.hid hp
    have HG := Lib.hid hg
    clear ho hp hg
    by_cases hlt : r < n
    · have hltI : (r : Int) < (n : Int) := by omega
      obtain ⟨⟨k, x⟩, hx⟩ := lt_some (l := es) (i := r) (by have := HN.out; omega)
      have HX := Lib.hid hx
      have HC1 := Lib.hid (getI_some b c cap (es.drop (r + 1) ++ es.take r) k x wr (by rw [← turnAt_cons hx]; exact HQ.out))
      clear hx
      go_wp2_with (go_at_call 19; refine HC1.out.mono ?_; rintro e W2 ⟨rfl, he, hp, hg⟩; refine Hid.out ?_)
      have k0 : W2.cell? ⟨k, 0, none⟩ = some (.int .i64 x) := (cell_of_row W2 k 0 _ _ _ he).trans rfl
      have HE2 := Lib.hid (show Blk k #[.int .i64 x] 3 W2 from he)
      have HQ2 := Lib.hid hp
      have HG2 := Lib.hid (grown_twice HG.out hg)
      have HO2 := Lib.hid (show KOwns KZ W1.heap.size u3 (valsAt es r) W2 from HO.out.chanOther hg HQ.out)
      have HKL := Lib.hid (show k < W1.heap.size ∧ c < W1.heap.size ∧ b < W1.heap.size from ⟨(HP.out.elem (k, x) (List.mem_of_getElem? HX.out)).lt, HP.out.lt, HP.out.box.lt⟩)
      clear he hp hg HC1 HQ HG HO
      have HB3 := Lib.hid (below1 W2 (.cells #[.int .i64 x] KZ.T))
      have HO3 := Lib.hid (HO2.out.below HB3.out)
      have HK3 := Lib.hid (Blk.klies (K := KZ) (l := [x]) (Blk.new W2 #[.int .i64 x] KZ.T) okZ rfl)
      have HBS := Lib.hid (show W1.heap.size ≤ (W2.alloc (.cells #[.int .i64 x] KZ.T)).heap.size from Nat.le_trans HG2.out.size HB3.out.size)
      have HLE := Lib.hid (show (valsAt es r).length + [x].length ≤ 1000000 by have h1 := HLEN.out; have h2 := vals_len (es := es) (r := r); have := HN.out; simp; omega)
      clear HO2
      unfold pv
      refine Lib.hid ?_
      go_wp2_with (first
        | (refine kbuild KZ okZ 1 #[.int .i64 0] zeroZ rfl _ rfl [(0, .int .i64 x)] rfl #[.int .i64 x] (by decide) (by decide) (fillZ x) ?_)
        | (refine kappend KZ okZ rfl _ _ rfl W1.heap.size _ (valsAt es r) [x] rfl HO3.out _ rfl HK3.out HBS.out HLE.out (fun v' w' ho hg => ?_); refine Hid.out ?_))
      have HG4 := Lib.hid (grown_far (grown_before HG2.out HB3.out) hg (fun k e => HO3.out.ge k e))
      have HQ4 := Lib.hid (show PipA 3 44 vI b c cap (es.drop (r + 1) ++ es.take r) w' from HP.out.carry HG4.out
        (by
          obtain ⟨s, rr, hc⟩ := (HQ2.out.below HB3.out).chan
          exact ⟨s, rr, (hg.block c (HQ2.out.below HB3.out).lt (fun e => by have := HO3.out.ge c e.symm; have := HKL.out.2.1; omega)).trans hc⟩)
        (fun e he => by
          rcases List.mem_append.1 he with he | he
          · exact List.mem_of_mem_drop he
          · exact List.mem_of_mem_take he) HQ2.out.fits)
      have HE4 := Lib.hid (show ElA 3 vI (k, x) w' from HP.out.other HG4.out (HP.out.elem (k, x) (List.mem_of_getElem? HX.out)))
      have HO4 := Lib.hid ho
      have HC4 := Lib.hid (show Calls Try.prog 20 #[.pointer (some ⟨b, 0, none⟩), .pointer (some ⟨k, 0, none⟩)] w' _ from putI_room b c cap _ k x w' HQ4.out HE4.out (by
        have h1 := HP.out.fits
        have := HN.out
        rw [List.length_append, List.length_drop, List.length_take]
        omega))
      clear ho hg HQ2 HG2 HB3 HO3 HK3 HBS HLE HE2 HE4 k0 HKL
      refine Lib.hid ?_
      go_wp2_with (go_at_call 20; refine HC4.out.mono ?_; rintro e W5 ⟨rfl, hp, hg⟩; refine Hid.out ?_)
      have HO5 := Lib.hid (HO4.out.chanOther hg HQ4.out)
      have HG5 := Lib.hid (grown_twice HG4.out hg)
      rw [turnAt_next HX.out] at hp
      have HQ5 := Lib.hid hp
      clear hp hg HC4 HO4 HG4 HQ4
      have hr9 : r < 1000000 := by have := HLEN.out; have := HN.out; omega
      refine Lib.hid ?_
      go_wp2_with fail
      go_roundg (n - (r + 1))
      case measure => omega
      case rel =>
        refine ⟨r + 1, by omega, by go_num, ?_, HQ5.out, HG5.out⟩
        rw [← vals_next HX.out]
        exact HO5.out
    · have hltI : ¬ (r : Int) < (n : Int) := by omega
      have hr' : r = n := by omega
      have HT := Lib.hid hr'
      go_wp2_with fail
      go_ret
      have e2 : r = es.length := by rw [HT.out]; exact HN.out
      refine ⟨_, rfl, ?_, ?_, HG.out⟩
      · have h1 := HO.out
        rwa [vals_all e2] at h1
      · have h1 := HQ.out
        rwa [turnAt_all e2] at h1

theorem AllS_nil (w : World) : Calls Try.prog 16 #[.pointer none] w fun e w' => e = .returned (.slice none 0 0) ∧ w' = w := by
  have HC := Lib.hid (LenS_nil w)
  go_enter Try.func16, Try.ntmps16
  go_wp2_with (go_at_call 18; refine HC.out.mono ?_; rintro e W1 ⟨rfl, rfl⟩; refine Hid.out ?_)
  refine Lib.hid ?_
  go_wp2_with fail
  go_loopg [8, 3] 0 (fun q s8 s3 wr => s8 = .int .i64 0 ∧ s3 = .slice none 0 0 ∧ wr = W1)
  case atStart => exact ⟨rfl, rfl, rfl⟩
  case round =>
    obtain ⟨rfl, rfl, rfl⟩ := hrel
    go_wp2_with fail
    go_ret
    exact ⟨rfl, rfl⟩
set_option maxHeartbeats 2000000 in
theorem AllS_any (b c cap : Nat) (es : List (Nat × ByteArray)) (hlen : es.length ≤ 1000000) (w : World) (h : PipA 9 51 vS b c cap es w) :
    Calls Try.prog 16 #[.pointer (some ⟨b, 0, none⟩)] w fun e w' => ∃ v, e = .returned v ∧ KOwns KT w.heap.size v (es.map Prod.snd) w' ∧ PipA 9 51 vS b c cap es w' ∧ w.grownBy w' (some c) := by
  have HC := Lib.hid (LenS_any b c cap es w h)
  have HP := Lib.hid h
  have HLEN := Lib.hid hlen
  clear h hlen
  obtain ⟨n, hn⟩ : ∃ n, n = es.length := ⟨_, rfl⟩
  rw [← hn] at HC
  have HN := Lib.hid hn
  clear hn
  go_enter Try.func16, Try.ntmps16
  go_wp2_with (go_at_call 18; refine HC.out.mono ?_; rintro e W1 ⟨rfl, rfl⟩; refine Hid.out ?_)
  clear HC
  refine Lib.hid ?_
  go_wp2_with fail
  go_loopg [8, 3] n (fun q s8 s3 wr => ∃ r : Nat, r + q = n ∧ s8 = .int .i64 r ∧ KOwns KT W1.heap.size s3 (valsAt es r) wr ∧ PipA 9 51 vS b c cap (turnAt es r) wr ∧ W1.grownBy wr (some c))
  case atStart => exact ⟨0, by omega, rfl, KOwns.nil _ _, by rw [turnAt_zero]; exact HP.out, World.grownBy.refl _ _⟩
  case round =>
    obtain ⟨r, hr, rfl, ho, hp, hg⟩ := hrel
    have HO := Lib.hid ho
    have HQ := Lib.hid hp
    have HG := Lib.hid hg
    clear ho hp hg
    by_cases hlt : r < n
    · have hltI : (r : Int) < (n : Int) := by omega
      obtain ⟨⟨k, x⟩, hx⟩ := lt_some (l := es) (i := r) (by have := HN.out; omega)
      have HX := Lib.hid hx
      have HC1 := Lib.hid (getS_some b c cap (es.drop (r + 1) ++ es.take r) k x wr (by rw [← turnAt_cons hx]; exact HQ.out))
      clear hx
      go_wp2_with (go_at_call 22; refine HC1.out.mono ?_; rintro e W2 ⟨rfl, he, hp, hg⟩; refine Hid.out ?_)
      have k0 : W2.cell? ⟨k, 0, none⟩ = some (.string x) := (cell_of_row W2 k 0 _ _ _ he).trans rfl
      have HE2 := Lib.hid (show Blk k #[.string x] 9 W2 from he)
      have HQ2 := Lib.hid hp
      have HG2 := Lib.hid (grown_twice HG.out hg)
      have HO2 := Lib.hid (show KOwns KT W1.heap.size u3 (valsAt es r) W2 from HO.out.chanOther hg HQ.out)
      have HKL := Lib.hid (show k < W1.heap.size ∧ c < W1.heap.size ∧ b < W1.heap.size from ⟨(HP.out.elem (k, x) (List.mem_of_getElem? HX.out)).lt, HP.out.lt, HP.out.box.lt⟩)
      clear he hp hg HC1 HQ HG HO
      have HB3 := Lib.hid (below1 W2 (.cells #[.string x] KT.T))
      have HO3 := Lib.hid (HO2.out.below HB3.out)
      have HK3 := Lib.hid (Blk.klies (K := KT) (l := [x]) (Blk.new W2 #[.string x] KT.T) okT rfl)
      have HBS := Lib.hid (show W1.heap.size ≤ (W2.alloc (.cells #[.string x] KT.T)).heap.size from Nat.le_trans HG2.out.size HB3.out.size)
      have HLE := Lib.hid (show (valsAt es r).length + [x].length ≤ 1000000 by have h1 := HLEN.out; have h2 := vals_len (es := es) (r := r); have := HN.out; simp; omega)
      clear HO2
      unfold pv
      refine Lib.hid ?_
      go_wp2_with (first
        | (refine kbuild KT okT 1 #[.string ⟨#[]⟩] zeroT rfl _ rfl [(0, .string x)] rfl #[.string x] (by decide) (by decide) (fillT x) ?_)
        | (refine kappend KT okT rfl _ _ rfl W1.heap.size _ (valsAt es r) [x] rfl HO3.out _ rfl HK3.out HBS.out HLE.out (fun v' w' ho hg => ?_); refine Hid.out ?_))
      have HG4 := Lib.hid (grown_far (grown_before HG2.out HB3.out) hg (fun k e => HO3.out.ge k e))
      have HQ4 := Lib.hid (show PipA 9 51 vS b c cap (es.drop (r + 1) ++ es.take r) w' from HP.out.carry HG4.out
        (by
          obtain ⟨s, rr, hc⟩ := (HQ2.out.below HB3.out).chan
          exact ⟨s, rr, (hg.block c (HQ2.out.below HB3.out).lt (fun e => by have := HO3.out.ge c e.symm; have := HKL.out.2.1; omega)).trans hc⟩)
        (fun e he => by
          rcases List.mem_append.1 he with he | he
          · exact List.mem_of_mem_drop he
          · exact List.mem_of_mem_take he) HQ2.out.fits)
      have HE4 := Lib.hid (show ElA 9 vS (k, x) w' from HP.out.other HG4.out (HP.out.elem (k, x) (List.mem_of_getElem? HX.out)))
      have HO4 := Lib.hid ho
      have HC4 := Lib.hid (show Calls Try.prog 21 #[.pointer (some ⟨b, 0, none⟩), .pointer (some ⟨k, 0, none⟩)] w' _ from putS_room b c cap _ k x w' HQ4.out HE4.out (by
        have h1 := HP.out.fits
        have := HN.out
        rw [List.length_append, List.length_drop, List.length_take]
        omega))
      clear ho hg HQ2 HG2 HB3 HO3 HK3 HBS HLE HE2 HE4 k0 HKL
      refine Lib.hid ?_
      go_wp2_with (go_at_call 21; refine HC4.out.mono ?_; rintro e W5 ⟨rfl, hp, hg⟩; refine Hid.out ?_)
      have HO5 := Lib.hid (HO4.out.chanOther hg HQ4.out)
      have HG5 := Lib.hid (grown_twice HG4.out hg)
      rw [turnAt_next HX.out] at hp
      have HQ5 := Lib.hid hp
      clear hp hg HC4 HO4 HG4 HQ4
      have hr9 : r < 1000000 := by have := HLEN.out; have := HN.out; omega
      refine Lib.hid ?_
      go_wp2_with fail
      go_roundg (n - (r + 1))
      case measure => omega
      case rel =>
        refine ⟨r + 1, by omega, by go_num, ?_, HQ5.out, HG5.out⟩
        rw [← vals_next HX.out]
        exact HO5.out
    · have hltI : ¬ (r : Int) < (n : Int) := by omega
      have hr' : r = n := by omega
      have HT := Lib.hid hr'
      go_wp2_with fail
      go_ret
      have e2 : r = es.length := by rw [HT.out]; exact HN.out
      refine ⟨_, rfl, ?_, ?_, HG.out⟩
      · have h1 := HO.out
        rwa [vals_all e2] at h1
      · have h1 := HQ.out
        rwa [turnAt_all e2] at h1
end Go.Proofs.Ythccfbjhbbheeaa
