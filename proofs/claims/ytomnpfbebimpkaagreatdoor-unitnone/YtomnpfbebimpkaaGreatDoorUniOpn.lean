/-
  Open: the numbers of the open transactions, ascending.
-/
import Derived.Test.YtomnpfbebimpkaaGreatDoorUniTick
import Derived.Test.YtomnpfbebimpkaaGreatDoorSrtLay
import Derived.Sort.EveryDepth
import Derived.Sort.OwnSortedInts
namespace Go.Proofs.YtomnpfbebimpkaaGreatDoor
set_option maxRecDepth 20000
open Go.RowKit

abbrev KJ : Kd Int := ⟨3, 48, 1, 8, fun x => [.int .i64 x]⟩
theorem okJ : KJ.Ok where
  pos := by decide
  len := fun _ => rfl
  one := fun a u hu => by
    simp only [List.mem_cons, List.not_mem_nil, or_false] at hu
    subst hu
    rfl
  under := Tryz.underlying48
  info := infoOf (by kernel_rfl) (by kernel_rfl) (by kernel_rfl)
  small := by decide
  room1 := by decide
theorem flatJ (l : List Int) : KJ.flat l = l.map (Value.int .i64) := by
  induction l with
  | nil => rfl
  | cons b l ih => unfold Kd.flat at *; rw [List.flatMap_cons, ih]; rfl
/-- numbers, ascending -/
def ascL (l : List Int) : List Int := l.mergeSort fun x y => decide (x ≤ y)
theorem ascL_len (l : List Int) : (ascL l).length = l.length := List.length_mergeSort l
theorem len8_0 : Lib.len8 0 = 0 := by decide +kernel
set_option maxHeartbeats 2000000 in
theorem len_zero (w : World) : Calls Tryz.prog 101 #[.int .u64 0] w fun e w' => e = .returned (.int .i64 0) ∧ w = w' := by
  go_enter Tryz.func101, Tryz.ntmps101
  go_wp2
  go_ret
  refine ⟨?_, rfl⟩
  show Ending.returned (.int .i64 (wrap64 (wrap64 (Lib.len8 0)))) = _
  rw [len8_0, show wrap64 (wrap64 0) = 0 by decide +kernel]
theorem len_zero2 (w : World) : Calls Tryz.prog 70 #[.int .u64 0] w fun e w' => e = .returned (.int .i64 0) ∧ w = w' := by
  go_enter Tryz.func70, Tryz.ntmps70
  go_wp2_with (go_at_call 101; refine (len_zero _).mono ?_; rintro e w1 ⟨rfl, rfl⟩)
  go_ret
  exact ⟨rfl, rfl⟩
theorem ins_zero (w : World) : Calls Tryz.prog 91 #[.slice none 0 0, .int .i64 0, .int .i64 0] w fun e w' => e = .returned (.tuple #[]) ∧ w = w' := by
  go_enter Tryz.func91, Tryz.ntmps91
  go_wp2
  go_loopg [6] 0 (fun k i wr => i = .int .i64 1 ∧ w = wr)
  case atStart => exact ⟨by go_num, rfl⟩
  case round =>
    obtain ⟨rfl, rfl⟩ := hrel
    go_wp2
    refine bodyPost_end (results_none rfl _ _ _) rfl ?_
    exact ⟨rfl, rfl⟩
theorem pdq_zero (w : World) : Calls Tryz.prog 69 #[.slice none 0 0, .int .i64 0, .int .i64 0, .int .i64 0] w fun e w' => e = .returned (.tuple #[]) ∧ w = w' := by
  go_enter Tryz.func69, Tryz.ntmps69
  go_wp2_with (go_at_call 91; refine (ins_zero _).mono ?_; rintro e w1 ⟨rfl, rfl⟩)
  go_loopg [1, 2, 3] 0 (fun k a b i wr => a = .int .i64 0 ∧ b = .int .i64 0 ∧ i = .int .i64 0 ∧ w = wr)
  case atStart => exact ⟨rfl, rfl, rfl, rfl⟩
  case round =>
    obtain ⟨rfl, rfl, rfl, rfl⟩ := hrel
    go_wp2_with (go_at_call 91; refine (ins_zero _).mono ?_; rintro e w1 ⟨rfl, rfl⟩)
    refine bodyPost_ret (v := .tuple #[]) (results_none rfl _ _ _) rfl ?_
    exact ⟨rfl, rfl⟩
theorem sort_nil (w : World) : Calls Tryz.prog 38 #[.slice none 0 0] w fun e w' => e = .returned (.tuple #[]) ∧ w = w' := by
  go_enter Tryz.func38, Tryz.ntmps38
  go_wp2_with (first
    | (go_at_call 70; refine (len_zero2 _).mono ?_; rintro e w1 ⟨rfl, rfl⟩)
    | (go_at_call 69; refine (pdq_zero _).mono ?_; rintro e w1 ⟨rfl, rfl⟩))
  refine bodyPost_end (results_none rfl _ _ _) rfl ?_
  exact ⟨rfl, rfl⟩
/-- slices.Sort of a slice of one's own -/
theorem sort_any (base : Nat) (v : Value) (l : List Int) (hl : l.length ≤ 1000000) (w : World) (h : KOwns KJ base v l w) :
    Calls Tryz.prog 38 #[v] w fun e w' => e = .returned (.tuple #[]) ∧ KOwns KJ base v (ascL l) w' ∧ w.grownBy w' v.ownBlock := by
  rcases h with ⟨hx, ⟨rfl, h2⟩ | ⟨g, cap, cur, rfl, h2, h3, h4, h5, h6, h7⟩⟩
  · have hn : l = [] := List.length_eq_zero_iff.1 h2
    subst hn
    refine (sort_nil w).mono fun e w' hr => ?_
    obtain ⟨rfl, rfl⟩ := hr
    exact ⟨rfl, by rw [show ascL [] = [] by simp [ascL]]; exact KOwns.nil _ _, ⟨rfl, rfl, rfl, Nat.le_refl _, fun _ _ _ => rfl⟩⟩
  · have ht : cur.toList.take l.length = l.map (Value.int .i64) := by
      rw [flatJ] at h7
      have := h7
      rwa [show l.length * KJ.n = l.length by show l.length * 1 = _; omega] at this
    refine (calls_of_every_depth fun D => AnyS.slices_Sort_int_in srtInt D g 0 cap l w (holds_of_blockI h3 ht) (Array.getElem?_eq_some_iff.1 h3).1 (by omega)).mono fun e w' hr => ?_
    obtain ⟨rfl, n, os, rfl⟩ := hr
    refine ⟨rfl, ?_, grownBy_sortedI _⟩
    have hs := ownsRow_sortedI (w := w) (n := n) (os := os) (ss := l) (ts := ascL l) (base := base) (cap := cap) (ascL_len l) h2 h3 h4 h5 h6
    unfold KOwns
    rw [ascL_len, flatJ]
    exact hs
set_option maxHeartbeats 400000 in
theorem un_open (x : Um) (B : Nat) (hlen : x.ts.length ≤ 9000) (w : World) (h : UniA B x w) :
    Calls Tryz.prog 18 #[.pointer (some ⟨x.p, 0, none⟩)] w fun e w' => ∃ v, e = .returned v ∧ KOwns KJ w.heap.size v (ascL (x.ts.map (·.id))) w' ∧ Below w.heap.size w w' := by
  obtain ⟨p, c, hv⟩ := h.voForm
  have HU := Lib.hid h
  have HV := Lib.hid hv
  have c2 : w.cell? ⟨x.p, 2, none⟩ = some (.slice p x.ts.length c) := by rw [← HV.out]; exact HU.out.vo_
  clear h hv
  obtain ⟨n, hn⟩ : ∃ n, n = x.ts.length := ⟨_, rfl⟩
  have HN := Lib.hid hn
  rw [← hn] at hlen c2
  clear hn
  go_enter Tryz.func18, Tryz.ntmps18
  go_wp2_with fail
  clear c2
  go_loopg [3, 13] n (fun k s3 s13 wr => ∃ r : Nat, r + k = n ∧ s13 = .int .i64 r ∧ KOwns KJ w.heap.size s3 ((x.ts.take r).map (·.id)) wr ∧ Below w.heap.size w wr)
  case atStart => exact ⟨0, by omega, rfl, KOwns.nil _ _, Below.refl _ _⟩
  case round =>
    obtain ⟨r, hr, rfl, ho, hb⟩ := hrel
    have HO := Lib.hid ho
    have HB := Lib.hid hb
    obtain ⟨p3, c3, e3⟩ := ho.form
    obtain ⟨q3, hq3⟩ : ∃ q3, q3 = ((x.ts.take r).map (·.id)).length := ⟨_, rfl⟩
    rw [← hq3] at e3
    subst e3
    clear ho hb hq3
    by_cases hlt : r < n
    · have hltI : (r : Int) < (n : Int) := by omega
      obtain ⟨t, ht⟩ := lt_some (l := x.ts) (i := r) (by have := HN.out; omega)
      obtain ⟨b, o, rfl, hrg⟩ := (show KLies KX (.slice p n c) (x.ts.map (·.b)) wr by rw [HN.out, ← HV.out]; exact (HU.out.below HB.out).opn.lies okX).at (i := r) (a := t.b) (by rw [List.getElem?_map, ht]; rfl)
      obtain ⟨c0, c1⟩ := ptrAt hrg
      have cid : wr.cell? ⟨t.b, 0, none⟩ = some (.int .i64 t.id) := ((HU.out.txs t (List.mem_of_getElem? ht)).below HB.out).id_
      have HST := Lib.hid (show (x.ts.take (r + 1)).map (·.id) = (x.ts.take r).map (·.id) ++ [t.id] by rw [List.take_add_one, ht, List.map_append]; rfl)
      have RX := Lib.hid (Blk.new wr #[.int .i64 t.id] KJ.T)
      have HB1 := Lib.hid (below1 wr (.cells #[.int .i64 t.id] KJ.T))
      have HO1 := Lib.hid (HO.out.below HB1.out)
      have HLE := Lib.hid (Nat.le_trans HB.out.size HB1.out.size)
      have HLL := Lib.hid (show ((x.ts.take r).map (·.id)).length + [t.id].length ≤ 1000000 by rw [List.length_map, List.length_take, List.length_singleton]; omega)
      have HKL := Lib.hid (show KLies KJ (.slice (some ⟨wr.heap.size, 0, none⟩) 1 1) [t.id] (wr.alloc (.cells #[.int .i64 t.id] KJ.T)) from Blk.klies (l := [t.id]) RX.out okJ (by simp [Kd.flat]))
      clear hrg ht
      go_wp2_with (refine kappend KJ okJ rfl _ _ rfl w.heap.size _ _ [t.id] rfl HO1.out _ rfl HKL.out HLE.out HLL.out (fun v' w' ho hg => ?_); refine Hid.out ?_)
      have HB2 := Lib.hid (kbelowOwn (HB.out.trans (HB1.out.mono HB.out.size)) HO1.out (Nat.le_refl _) hg)
      have HO2 := Lib.hid ho
      clear ho hg HO HO1 HB HB1 c0 c1 cid RX HKL HLE HLL
      refine Lib.hid ?_
      go_wp2_with fail
      go_roundg (n - (r + 1))
      case measure => omega
      case rel => exact ⟨r + 1, by omega, by go_num, by rw [HST.out]; exact HO2.out, HB2.out⟩
    · have hltI : ¬ (r : Int) < (n : Int) := by omega
      obtain ⟨l, hl⟩ : ∃ l, l = x.ts.map (·.id) := ⟨_, rfl⟩
      have HL := Lib.hid hl
      have HF := Lib.hid (show (x.ts.take r).map (·.id) = l by rw [hl, List.take_of_length_le (by have := HN.out; omega)])
      have HOF := Lib.hid (show KOwns KJ w.heap.size (.slice p3 q3 c3) l wr by have := HO.out; rw [HF.out] at this; exact this)
      have HS := Lib.hid (sort_any w.heap.size _ l (by rw [hl, List.length_map, ← HN.out]; omega) wr HOF.out)
      clear hl HO
      go_wp2_with (go_at_call 38; refine HS.out.mono ?_; rintro e w2 ⟨rfl, ho2, hg2⟩; refine Hid.out ?_)
      have HO2 := Lib.hid ho2
      have HB2 := Lib.hid (kbelowOwn HB.out HOF.out (Nat.le_refl _) hg2)
      clear ho2 hg2 HS HOF HB
      refine Lib.hid ?_
      go_wp2_with fail
      go_ret
      exact ⟨_, rfl, by rw [← HL.out]; exact HO2.out, HB2.out⟩
end Go.Proofs.YtomnpfbebimpkaaGreatDoor
