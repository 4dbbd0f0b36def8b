/- Several of my texts as one: UndPlace, UndCond, UndDel, UndFun, UndSwap, UndDiff, UndInv. -/
import Derived.Test.YtomnpfbebimpkaaGreatDoorUndMath
import Derived.Test.YtomnpfbebimpkaaGreatDoorPackMod
import Derived.Test.YtomnpfbebimpkaaGreatDoorPackRule
import Derived.Test.YtomnpfbebimpkaaGreatDoorPackSort
import Derived.Test.YtomnpfbebimpkaaGreatDoorPackRuleB
import Derived.Test.YtomnpfbebimpkaaGreatDoorRuleRStM
import Derived.Test.YtomnpfbebimpkaaGreatDoorPackAct
import Derived.Test.YtomnpfbebimpkaaGreatDoorPackModB
import Derived.Test.YtomnpfbebimpkaaGreatDoorModLaw
/-
  The walks of sort.Search, and of place of package undo.
-/
namespace Go.Proofs.YtomnpfbebimpkaaGreatDoor
open Go.RowKit

/-- what Search gives: the first place from which the condition holds -/
def SeaRet (n : Nat) (q : Nat → Bool) (w : World) (e : Ending) (w' : World) : Prop :=
  ∃ c : Nat, e = .returned (.int .i64 (c : Int)) ∧ c ≤ n ∧ (∀ j, j < c → q j = false) ∧ (∀ j, c ≤ j → j < n → q j = true) ∧ Below w.heap.size w w'
/-- has a rule of a list the key of a rule? -/
def plB (l : List Rm) (r : Rm) : Bool := l.any fun x => keyB x.u r.u
/-- what place gives -/
def PlRet (l : List Rm) (r : Rm) (w : World) (e : Ending) (w' : World) : Prop := ∃ c : Nat, e = .returned (.tuple #[.int .i64 (c : Int), .bool (plB l r)]) ∧ (plB l r = true → ∃ x, l[c]? = some x ∧ keyB x.u r.u = true) ∧ c ≤ l.length ∧ Below w.heap.size w w'
/-- is a rule of the list not before a rule? -/
def nbB (l : List Rm) (r : Rm) (j : Nat) : Bool := !decide (rOrd (nthU l j) r.u < 0)
section
variable {l : List Rm} {r x : Rm} {c i j : Nat}
theorem srt_at (hs : Srt rOrd (l.map (·.u))) (hij : i < j) {y : Rm} (hx : l[i]? = some x) (hy : l[j]? = some y) : rOrd x.u y.u < 0 := by
  obtain ⟨h1, e1⟩ := List.getElem?_eq_some_iff.1 hx
  obtain ⟨h2, e2⟩ := List.getElem?_eq_some_iff.1 hy
  have := List.pairwise_iff_getElem.1 hs i j (by simpa using h1) (by simpa using h2) hij
  simpa [e1, e2] using this
theorem nb_at (hx : l[i]? = some x) : nbB l r i = !decide (rOrd x.u r.u < 0) := by unfold nbB; rw [nthU_at hx]
theorem nb_mono (hs : Srt rOrd (l.map (·.u))) (i j : Nat) (hij : i ≤ j) (hj : j < l.length) (h : nbB l r i = true) : nbB l r j = true := by
  rcases Nat.lt_or_eq_of_le hij with hlt | rfl
  · obtain ⟨x, hx⟩ := lt_some (show i < l.length by omega)
    obtain ⟨y, hy⟩ := lt_some hj
    have := srt_at hs hlt hx hy
    rw [nb_at hx] at h
    rw [nb_at hy]
    simp only [Bool.not_eq_true', decide_eq_false_iff_not] at h ⊢
    exact fun hq => h (rOrd_ordd.lt_trans this hq)
  · exact h
/-- with the first rule that is not before a rule all is said -/
theorem pl_at (hs : Srt rOrd (l.map (·.u))) (h1 : ∀ j, j < c → nbB l r j = false) (hx : l[c]? = some x) (h2 : nbB l r c = true) : plB l r = keyB x.u r.u := by
  unfold plB
  cases hk : keyB x.u r.u
  · rw [List.any_eq_false]
    intro y hy
    rw [Bool.not_eq_true]
    obtain ⟨j, hj, rfl⟩ := List.mem_iff_getElem.1 hy
    have hyj := List.getElem?_eq_getElem hj
    rcases Nat.lt_trichotomy j c with hlt | rfl | hgt
    · have := h1 j hlt
      rw [nb_at hyj] at this
      rw [key_ord]
      simp at this ⊢
      omega
    · rw [hyj] at hx
      injection hx with hx
      rw [hx]; exact hk
    · have := srt_at hs hgt hx hyj
      rw [nb_at hx] at h2
      simp only [Bool.not_eq_true', decide_eq_false_iff_not] at h2
      cases hq : keyB l[j].u r.u
      · rfl
      · exact absurd (rOrd_ordd.lt_of_lt_le this (by rw [(key_iff _ _).1 hq]; decide)) h2
  · exact List.any_eq_true.2 ⟨x, List.mem_of_getElem? hx, hk⟩
theorem pl_none (h1 : ∀ j, j < l.length → nbB l r j = false) : plB l r = false := by
  unfold plB
  rw [List.any_eq_false]
  intro y hy
  rw [Bool.not_eq_true]
  obtain ⟨j, hj, rfl⟩ := List.mem_iff_getElem.1 hy
  have := h1 j hj
  rw [nb_at (List.getElem?_eq_getElem hj)] at this
  rw [key_ord]
  simp at this ⊢
  omega
end
end Go.Proofs.YtomnpfbebimpkaaGreatDoor

/-
  The walks of the conditions that equalIn and keyIn give, and of all.
-/
namespace Go.Proofs.YtomnpfbebimpkaaGreatDoor
open Go.RowKit

/-- s[c:d] -/
theorem execMid {a : Act} {oi : Oper} {w : World} {x y z : Operand} (ho : oi.op = .slice 27 x (some y) (some z) none) (p : Option Addr) (len cap c d : Nat) (hx : a.eval x = .slice p len cap) (hy : a.eval y = .int .i64 (c : Int)) (hz : a.eval z = .int .i64 (d : Int))
    (hc : c ≤ d) (hd : d ≤ cap) : (execOp a.eval oi).run Tryz.prog w = .ok (.value (fromV 32 p d cap c)) w := by
  unfold execOp
  simp only [ho, hx, Option.map_some, Option.map_none, hy, hz, Sem.run_bind]
  rw [run_sliceAt_slice (h := elemR), run_slice_lh (ht := elemR) (h0 := by omega) (h1 := by omega) (h2 := by omega), sizeElR]
  simp [Result.andThen, sliced, fromV]
theorem KLies.mid {α : Type} {K : Kd α} {W : World} {l : List α} {p : Option Addr} {cap c : Nat} {x : α} (h : KLies K (.slice p l.length cap) l W) (hx : l[c]? = some x) : KLies K (fromV K.n p (c + 1) cap c) [x] W := by
  have hlt := (List.getElem?_eq_some_iff.1 hx).1
  have h1 := h.from (c := c) (by omega)
  have e : fromV K.n p l.length cap c = .slice (if cap = c then p else p.map (·.add (c * K.n))) (l.drop c).length (cap - c) := by unfold fromV; rw [List.length_drop]
  rw [e] at h1
  have h2 := h1.upto (c := 1) (by rw [List.length_drop]; omega)
  have e2 : (l.drop c).take 1 = [x] := by rw [List.drop_eq_getElem_cons hlt, (List.getElem?_eq_some_iff.1 hx).2]; rfl
  rw [e2] at h2
  unfold fromV
  rw [show c + 1 - c = 1 by omega]
  exact h2
/-- a table in its box, with the rules' actions; a rule with its own -/
def EqS (B0 : Nat) (v : Value) (l : List Rm) (wb : Nat) (r : Rm) (W : World) : Prop := SbS B0 v l wb r W ∧ RLies v l W ∧ InA r W
section
variable {B0 : Nat} {v : Value} {l : List Rm} {wb c cap : Nat} {r x : Rm} {p : Option Addr} {W W' : World}
theorem EqS.below (hb : Below W.heap.size W W') (h : EqS B0 v l wb r W) : EqS B0 v l wb r W' := ⟨h.1.below hb, h.2.1.below hb, h.2.2.below hb⟩
theorem EqS.mid (h : EqS B0 (.slice p l.length cap) l wb r W) (hx : l[c]? = some x) (_ : c + 1 ≤ cap) : RLies (fromV 32 p (c + 1) cap c) [x] W :=
  ⟨h.2.1.1.mid hx, fun z hz => by
    simp only [List.mem_cons, List.not_mem_nil, or_false] at hz
    subst hz
    exact h.2.1.acts hx⟩
end
/-- is a rule just so in a list of rules in memory? -/
def eqB (l : List Rm) (r : Rm) : Bool := inL r.u (l.map (·.u))
section
variable {l : List Rm} {r x : Rm} {c : Nat}
theorem rEq_key {a b : Ru} (h : rEq a b = true) : keyB b a = true := by
  unfold rEq at h
  rw [Bool.and_eq_true] at h
  rw [keyB_symm]; exact h.1
theorem eqB_no (h : plB l r = false) : eqB l r = false := by
  unfold eqB inL
  rw [List.any_eq_false]
  intro u hu hq
  obtain ⟨y, hy, rfl⟩ := List.mem_map.1 hu
  unfold plB at h
  rw [List.any_eq_false] at h
  exact h y hy (rEq_key hq)
theorem eqB_at (hs : Srt rOrd (l.map (·.u))) (hx : l[c]? = some x) (hk : keyB x.u r.u = true) : eqB l r = rEq x.u r.u := by
  unfold eqB inL
  cases h : rEq x.u r.u
  · rw [List.any_eq_false]
    intro u hu hq
    obtain ⟨y, hy, rfl⟩ := List.mem_map.1 hu
    obtain ⟨j, hj, rfl⟩ := List.mem_iff_getElem.1 hy
    have hyj := List.getElem?_eq_getElem hj
    have k1 := (key_iff _ _).1 (rEq_key hq)
    have k2 := (key_iff _ _).1 hk
    have k3 := rOrd_ordd.zero_trans k2 (rOrd_ordd.zero_symm k1)
    rcases Nat.lt_trichotomy j c with hlt | rfl | hgt
    · have := srt_at hs hlt hyj hx
      have := rOrd_ordd.zero_symm k3
      omega
    · rw [hyj] at hx
      injection hx with hx
      rw [hx, rEq_symm, h] at hq
      cases hq
    · have := srt_at hs hgt hx hyj
      omega
  · exact List.any_eq_true.2 ⟨x.u, List.mem_map_of_mem (List.mem_of_getElem? hx), by rw [rEq_symm]; exact h⟩
end
end Go.Proofs.YtomnpfbebimpkaaGreatDoor

/-
  slices.DeleteFunc over rules of one's own, whatever else is kept meanwhile; slices.Clone of rules; slices.Concat of any two lists.
-/
namespace Go.Proofs.YtomnpfbebimpkaaGreatDoor
set_option maxRecDepth 20000
open Go.RowKit

set_option maxHeartbeats 1000000 in
theorem rindex_in (g : Nat) (cb : Array Value) (q : Rm → Bool) (eg : ∀ args w, (callFunc g args).run Tryz.prog w = .ok (.enter g args) w) (p : Option Addr) (cap : Nat) (l : List Rm) (hlen : l.length ≤ 140737488355328) (w : World)
    (hl : KLies KR (.slice p l.length cap) l w) (hp : KPred agR (· ∈ l) g cb q w) :
    Calls Tryz.prog 133 #[.slice p l.length cap, .func (.func g) #[] cb] w fun e w' => e = .returned (.int .i64 (kidx q l)) ∧ Below w.heap.size w w' := by
  have HL := Lib.hid hl
  have HP := Lib.hid hp
  clear hl hp
  go_enter Tryz.func133, Tryz.ntmps133
  go_wp2
  go_loopg [8] l.length (fun k i wr => ∃ r : Nat, r + k = l.length ∧ i = .int .i64 r ∧ (∀ j b, j < r → l[j]? = some b → q b = false) ∧ Below w.heap.size w wr)
  case atStart => exact ⟨0, by omega, rfl, fun j _ h => absurd h (by omega), Below.refl _ _⟩
  case round =>
    obtain ⟨r, hr, rfl, hq, hb⟩ := hrel
    have HQ := Lib.hid hq
    have HB := Lib.hid hb
    clear hq hb
    by_cases hlt : r < l.length
    · have hltI : (r : Int) < (l.length : Int) := by omega
      obtain ⟨c, hc⟩ := lt_some hlt
      obtain ⟨b, o, rfl, hrg⟩ := (HL.out.below okR HB.out).at hc
      have HR := Lib.hid hrg
      have HI := Lib.hid hc
      have HC := Lib.hid (show Calls Tryz.prog g (#[.agg (rca c)] ++ cb) wr _ from HP.out wr HB.out c (List.mem_of_getElem? hc))
      clear hrg hc
      cases hq : q c
      · rw [hq] at HC
        have HH := Lib.hid hq
        clear hq
        go_wp2_with (first
          | (refine wpList_load_mid rfl 88 _ rfl b (o + r * 32) rfl (rcl c) _ HR.out Tryz.underlying88 rfl infoR ?_)
          | (go_at_fn g; refine HC.out.mono ?_; rintro e w1 ⟨rfl, hw1⟩))
        have HB1 := Lib.hid (HB.out.trans (hw1.mono HB.out.size))
        clear hw1 HC HR
        go_roundg (l.length - (r + 1))
        case measure => omega
        case rel =>
          refine ⟨r + 1, by omega, by go_num, fun j b' hj hb' => ?_, HB1.out⟩
          by_cases e : j = r
          · subst e
            rw [HI.out] at hb'
            rw [← Option.some.inj hb']; exact HH.out
          · exact HQ.out j b' (by omega) hb'
      · rw [hq] at HC
        have HH := Lib.hid (kidx_hit HI.out hq HQ.out)
        clear hq
        go_wp2_with (first
          | (refine wpList_load_mid rfl 88 _ rfl b (o + r * 32) rfl (rcl c) _ HR.out Tryz.underlying88 rfl infoR ?_)
          | (go_at_fn g; refine HC.out.mono ?_; rintro e w1 ⟨rfl, hw1⟩))
        have HB1 := Lib.hid (HB.out.trans (hw1.mono HB.out.size))
        clear hw1 HC HR
        go_ret
        exact ⟨retI HH.out.symm, HB1.out⟩
    · have hltI : ¬ (r : Int) < (l.length : Int) := by omega
      have HH := Lib.hid (kidx_none (q := q) (l := l) fun j b hj => HQ.out j b (by have := (List.getElem?_eq_some_iff.1 hj).1; omega) hj)
      go_wp2
      go_ret
      exact ⟨retI HH.out.symm, HB.out⟩
theorem rcontains_in (g : Nat) (cb : Array Value) (q : Rm → Bool) (eg : ∀ args w, (callFunc g args).run Tryz.prog w = .ok (.enter g args) w) (v : Value) (l : List Rm) (hlen : l.length ≤ 140737488355328) (w : World)
    (hl : KLies KR v l w) (hp : KPred agR (· ∈ l) g cb q w) :
    Calls Tryz.prog 136 #[v, .func (.func g) #[] cb] w fun e w' => e = .returned (.bool (l.any q)) ∧ Below w.heap.size w w' := by
  obtain ⟨p, cap, rfl⟩ := hl.form
  have HI := Lib.hid (rindex_in g cb q eg p cap l hlen w hl hp)
  have HA := Lib.hid (kidx_any q l)
  clear hl hp
  generalize kidx q l = y at *
  go_enter Tryz.func136, Tryz.ntmps136
  go_wp2_with (go_at_call 133; refine HI.out.mono ?_; rintro e w1 ⟨rfl, hw1⟩)
  go_ret
  exact ⟨ret_bool HA.out, hw1⟩
/-- what stays when memory is made, or cells are written in a block -/
structure StayS (S : World → Prop) (B : Nat) : Prop where
  below : ∀ {W W' : World}, S W → Below W.heap.size W W' → S W'
  put : ∀ {W : World} (o : Nat) (vs : List Value), S W → S (W.setCells B o vs)
/-- a function answers a condition on rules wherever S holds -/
def PredS (g : Nat) (cb : Array Value) (q : Rm → Bool) (S : World → Prop) (l : List Rm) : Prop :=
  ∀ W, S W → ∀ c, c ∈ l → Calls Tryz.prog g (#[agR c] ++ cb) W fun e w' => e = .returned (.bool (q c)) ∧ Below W.heap.size W w'
/-- what DeleteFunc leaves: the rules that stay, and what the caller keeps -/
def RdlR (base : Nat) (S : World → Prop) (L : List Rm) (e : Ending) (w' : World) : Prop := ∃ v, e = .returned v ∧ KOwns KR base v L w' ∧ S w'
/-- what DeleteFunc has while it goes over the rules -/
def RlS (S : World → Prop) (q : Rm → Bool) (l : List Rm) (B cap : Nat) (i j : Nat) (W : World) : Prop :=
  ∃ d, KeptR q l i j d ∧ KAt KR B cap d W ∧ S W
set_option maxHeartbeats 2000000 in
theorem rdl_some (g : Nat) (cb : Array Value) (q : Rm → Bool) (eg : ∀ args w, (callFunc g args).run Tryz.prog w = .ok (.enter g args) w) (S : World → Prop) (B cap base : Nat) (l : List Rm) (hlen : l.length ≤ 100000) (w : World) (hbase : base ≤ B)
    (hl : KAt KR B cap l w) (hst : StayS S B) (hp : PredS g cb q S l) (hS : S w) (k0 : Nat) (x0 : Rm) (hidx : kidx q l = k0) (hx0 : l[k0]? = some x0) (h1 : q x0 = true) (h2 : ∀ (j : Nat) b, j < k0 → l[j]? = some b → q b = false) :
    Calls Tryz.prog 110 #[.slice (some ⟨B, 0, none⟩) l.length cap, .func (.func g) #[] cb] w (RdlR base S (l.filter fun c => !q c)) := by
  have HI := Lib.hid (rindex_in g cb q eg (some ⟨B, 0, none⟩) cap l (by omega) w (hl.lies _ rfl _ hl.1) (fun W hb c hc => hp W (hst.below hS hb) c hc))
  rw [hidx] at HI
  have HS := Lib.hid (show RlS S q l B cap k0 (k0 + 1) w from ⟨l, KeptR.start hx0 h1 h2, hl, hS⟩)
  have hk0 : k0 < l.length := (List.getElem?_eq_some_iff.1 hx0).1
  have hcap : l.length ≤ cap := hl.1
  have HP := Lib.hid hp
  have HST := Lib.hid hst
  clear hl hp hidx hx0 h1 h2 hst hS
  have hne1 : ((k0 : Int) == -1) = false := beq_eq_false_iff_ne.2 (by omega)
  go_enter Tryz.func110, Tryz.ntmps110
  go_wp2_with (go_at_call 133; refine HI.out.mono ?_; rintro e w1 ⟨rfl, hw1⟩)
  have HS1 := Lib.hid (show RlS S q l B cap k0 (k0 + 1) w1 from by
    obtain ⟨d, a, b, c⟩ := HS.out
    exact ⟨d, a, b.below hw1, HST.out.below c hw1⟩)
  clear hw1 HS HI
  go_loopg [5, 6] (l.length - (k0 + 1)) (fun k s5 s6 wr => ∃ i j : Nat, j + k = l.length ∧ s5 = .int .i64 i ∧ s6 = .int .i64 j ∧ RlS S q l B cap i j wr)
  case atStart => exact ⟨k0, k0 + 1, by omega, rfl, by go_num, HS1.out⟩
  case round =>
    clear HS1
    obtain ⟨i, j, hj, rfl, rfl, d, hK, hO, hM⟩ := hrel
    have HK := Lib.hid hK
    have HO := Lib.hid hO
    have HM := Lib.hid hM
    clear hK hO hM
    by_cases hlt : j < l.length
    · have hltI : (j : Int) < (l.length : Int) := by omega
      have hij := HK.out.lt
      have hilI : (i : Int) < (l.length : Int) := by omega
      have hil : i < l.length := by omega
      have hic : i < cap := by omega
      obtain ⟨x, hx⟩ := lt_some hlt
      have HX := Lib.hid hx
      have HR := Lib.hid (show wr.rangeAt B (j * 32) (rcl x) from HO.out.range (by rw [HK.out.post j (Nat.le_refl _)]; exact hx))
      have HM1 := Lib.hid (HST.out.below HM.out (below1 wr (.cells (rca x) 88)))
      have HC := Lib.hid (show Calls Tryz.prog g (#[.agg (rca x)] ++ cb) (wr.alloc (.cells (rca x) 88)) _ from HP.out (wr.alloc (.cells (rca x) 88)) HM1.out x (List.mem_of_getElem? hx))
      have R0 := Lib.hid (Blk.new wr (rca x) 88)
      have HO1 := Lib.hid (HO.out.below (below1 wr (.cells (rca x) 88)))
      clear hx HO HM
      cases hq : q x
      · rw [hq] at HC
        have HK1 := Lib.hid (HK.out.keep HX.out hq)
        clear hq
        go_wp2_with (first
          | (refine wpList_load_mid rfl 88 _ rfl B (j * 32) rfl (rcl x) _ HR.out Tryz.underlying88 rfl infoR ?_)
          | (refine wpList_store_row rfl 88 _ _ rfl wr.heap.size (rca x) rfl rfl 88 _ (heap_alloc_new _ _) (by kernel_rfl) rfl (rca_one _) ?_; rw [World.setRow_alloc_new])
          | (refine wpList_load_row rfl 88 _ rfl wr.heap.size rfl 88 (rca x) (0, 0) _ R0.out Tryz.underlying88 rfl infoR ?_))
        refine HC.out.mono ?_
        rintro e w2 ⟨rfl, hw2⟩
        have R1 := Lib.hid (R0.out.below hw2)
        have HO2 := Lib.hid (HO1.out.below hw2)
        have HM2 := Lib.hid (HST.out.below HM1.out hw2)
        clear hw2 HC R0 HR HO1 HM1
        go_upto_region 10 with (first
          | (refine kstore KR okR infoR rfl (.tmp 33) (.tmp 32) rfl B i cap d x rfl rfl HO2.out hic ?_)
          | (refine wpList_load_row rfl 88 (.tmp 7) rfl wr.heap.size rfl 88 (rca x) (0, 0) _ R1.out Tryz.underlying88 rfl infoR ?_))
        have HO3 := Lib.hid (HO2.out.set okR (show i < d.length by rw [HK.out.len]; exact hil) x)
        have HM3 := Lib.hid (HST.out.put (i * 32) (rcl x) HM2.out)
        clear HO2 HM2 R1
        generalize w2.setCells B (i * 32) (rcl x) = w3 at *
        go_wp2
        go_roundg (l.length - (j + 1))
        case measure => omega
        case rel => exact ⟨i + 1, j + 1, by omega, by go_num, by go_num, d.set i x, HK1.out, HO3.out, HM3.out⟩
      · rw [hq] at HC
        have HK1 := Lib.hid (HK.out.skip HX.out hq)
        clear hq
        go_wp2_with (first
          | (refine wpList_load_mid rfl 88 _ rfl B (j * 32) rfl (rcl x) _ HR.out Tryz.underlying88 rfl infoR ?_)
          | (refine wpList_store_row rfl 88 _ _ rfl wr.heap.size (rca x) rfl rfl 88 _ (heap_alloc_new _ _) (by kernel_rfl) rfl (rca_one _) ?_; rw [World.setRow_alloc_new])
          | (refine wpList_load_row rfl 88 _ rfl wr.heap.size rfl 88 (rca x) (0, 0) _ R0.out Tryz.underlying88 rfl infoR ?_))
        refine HC.out.mono ?_
        rintro e w2 ⟨rfl, hw2⟩
        have HO2 := Lib.hid (HO1.out.below hw2)
        have HM2 := Lib.hid (HST.out.below HM1.out hw2)
        clear hw2 HC R0 HR HO1 HM1
        go_wp2
        go_roundg (l.length - (j + 1))
        case measure => omega
        case rel => exact ⟨i, j + 1, by omega, rfl, by go_num, d, HK1.out, HO2.out, HM2.out⟩
    · obtain rfl : j = l.length := by omega
      have hij := HK.out.lt
      have hdl := HK.out.len
      have hlt' : ¬ ((l.length : Int) < (l.length : Int)) := by omega
      have hid : i ≤ d.length := by omega
      have hlk : (d.take i).length = i := by rw [List.length_take]; omega
      have hO1 : KAt KR B cap (d.take i) wr := HO.out.cut (by rw [hlk]; omega) fun k a hk => by
        have hk' : k < i := by have := (List.getElem?_eq_some_iff.1 hk).1; omega
        rwa [List.getElem?_take_of_lt hk'] at hk
      have hth : ∀ t, t < (l.length - i) * 32 → (wr.cell? ⟨B, i * 32 + t, none⟩).isSome = true ∧ wr.frozen? ⟨B, i * 32 + t, none⟩ = false := fun t ht => by
        have := HO.out.there (i := i + t / 32) (by omega) (t % 32) (by show t % 32 < 32; omega)
        rwa [show (i + t / 32) * KR.n + t % 32 = i * 32 + t by show (i + t / 32) * 32 + t % 32 = _; omega] at this
      have hcl : ∀ c, ∃ vs, ∀ ty, (Builtin.clear_ #[27] ty #[.slice (some ⟨B, i * 32, none⟩) (l.length - i) c]).run Tryz.prog wr = .ok (.tuple #[]) (wr.setCells B (i * 32) vs) := fun c => by
        obtain ⟨vs, h⟩ := run_clear_rules wr (ty := 0) B (i * 32) (l.length - i) c (by omega) (fun t ht => (hth t ht).1) (fun t ht => (hth t ht).2)
        exact ⟨vs, fun ty => h⟩
      obtain ⟨vs, hcl'⟩ := hcl (cap - i)
      have HO2 := Lib.hid (show KAt KR B cap (d.take i) (wr.setCells B (i * 32) vs) from by have := hO1.wipe vs; rwa [hlk] at this)
      have HM2 := Lib.hid (HST.out.put (i * 32) vs HM.out)
      have HD := Lib.hid HK.out.done
      have HLK := Lib.hid hlk
      have hci : ¬ cap = i := by omega
      clear hO1 hcl HO HM hth hlk
      go_wp2
      go_ret
      refine ⟨_, rfl, ?_, HM2.out⟩
      have := KAt.owns okR HO2.out hbase
      rw [HLK.out] at this
      rw [← HD.out]
      exact this
set_option maxHeartbeats 1000000 in
theorem rdl_any (g : Nat) (cb : Array Value) (q : Rm → Bool) (eg : ∀ args w, (callFunc g args).run Tryz.prog w = .ok (.enter g args) w) (S : World → Prop) (v : Value) (base : Nat) (l : List Rm) (hlen : l.length ≤ 100000) (w : World)
    (hl : KOwns KR base v l w) (hst : ∀ B, v.ownBlock = some B → StayS S B) (hsb : ∀ {W W' : World}, S W → Below W.heap.size W W' → S W') (hp : PredS g cb q S l) (hS : S w) :
    Calls Tryz.prog 110 #[v, .func (.func g) #[] cb] w (RdlR base S (l.filter fun c => !q c)) := by
  rcases kidx_cases q l with ⟨e, h⟩ | ⟨i, x, e, hi, h1, h2⟩
  · obtain ⟨p, cap, rfl⟩ := hl.form
    have HI := Lib.hid (rindex_in g cb q eg p cap l (by omega) w (hl.lies okR) (fun W hb c hc => hp W (hsb hS hb) c hc))
    rw [e] at HI
    have HF := Lib.hid (show l.filter (fun c => !q c) = l from List.filter_eq_self.2 fun x hx => by rw [h x hx]; rfl)
    have HL := Lib.hid hl
    have HS := Lib.hid hS
    have HSB := Lib.hid (fun (W W' : World) (h1 : S W) (h2 : Below W.heap.size W W') => hsb h1 h2)
    rw [HF.out]
    clear hl hp e h hS hst hsb
    go_enter Tryz.func110, Tryz.ntmps110
    go_wp2_with (go_at_call 133; refine HI.out.mono ?_; rintro e w1 ⟨rfl, hw1⟩)
    go_ret
    exact ⟨_, rfl, HL.out.below hw1, HSB.out _ _ HS.out hw1⟩
  · rcases hl.kat okR with ⟨_, rfl⟩ | ⟨B, cap, rfl, hb, hk⟩
    · simp at hi
    · exact rdl_some g cb q eg S B cap base l hlen w hb hk (hst B rfl) hp hS i x e hi h1 h2
set_option maxHeartbeats 1000000 in
theorem rgrow_all (n : Nat) (hlen : n ≤ 1000000) (w : World) : Calls Tryz.prog 155 #[.slice none 0 0, .int .i64 (n : Int)] w (GrwRet w) := by
  by_cases hn : 0 < n
  · exact rgrow_any n hn hlen w
  · obtain rfl : n = 0 := by omega
    go_enter Tryz.func155, Tryz.ntmps155
    go_wp2_with fail
    go_ret
    exact ⟨_, rfl, KOwns.nil _ _, Below.refl _ _⟩
set_option maxHeartbeats 2000000 in
theorem concat_all (b : Nat) (v1 v2 : Value) (l1 l2 : List Rm) (hlen : l1.length + l2.length ≤ 1000000) (w : World) (hB : Blk b #[v1, v2] 27 w) (h1 : KLies KR v1 l1 w) (h2 : KLies KR v2 l2 w) :
    Calls Tryz.prog 140 #[.slice (some ⟨b, 0, none⟩) 2 2] w (OwnRet KR w (l1 ++ l2)) := by
  obtain ⟨p1, c1, rfl⟩ := h1.form
  obtain ⟨p2, c2, rfl⟩ := h2.form
  have HB := Lib.hid hB
  have H1 := Lib.hid h1
  have H2 := Lib.hid h2
  have kb0 : w.cell? ⟨b, 0, none⟩ = some (.slice p1 l1.length c1) := (cell_of_row w b 0 _ _ _ hB).trans rfl
  have kb1 : w.cell? ⟨b, 1, none⟩ = some (.slice p2 l2.length c2) := (cell_of_row w b 1 _ _ _ hB).trans rfl
  obtain ⟨n1, hn1⟩ : ∃ n, n = l1.length := ⟨_, rfl⟩
  obtain ⟨n2, hn2⟩ : ∃ n, n = l2.length := ⟨_, rfl⟩
  rw [← hn1] at kb0 H1 hlen
  rw [← hn2] at kb1 H2 hlen
  have N1 := Lib.hid hn1
  have N2 := Lib.hid hn2
  clear hB h1 h2 hn1 hn2
  have g1 : ¬ ((n1 : Int) < 0) := by omega
  have g2 : ¬ (((n1 + n2 : Nat) : Int) < 0) := by omega
  have e1 : wrap64 (0 + (n1 : Int)) = (n1 : Int) := by unfold wrap64; omega
  have e2 : wrap64 ((n1 : Int) + (n2 : Int)) = ((n1 + n2 : Nat) : Int) := by unfold wrap64; omega
  have HG := Lib.hid (rgrow_all (n1 + n2) hlen w)
  go_enter Tryz.func140, Tryz.ntmps140
  go_wp2_with fail
  go_loopg [3, 11] 2 (fun k s3 s11 wr => w = wr ∧ ((k = 2 ∧ s3 = .int .i64 0 ∧ s11 = .int .i64 0) ∨ (k = 1 ∧ s3 = .int .i64 (n1 : Int) ∧ s11 = .int .i64 1) ∨ (k = 0 ∧ s3 = .int .i64 ((n1 + n2 : Nat) : Int) ∧ s11 = .int .i64 2)))
  case atStart => exact ⟨rfl, .inl ⟨rfl, rfl, rfl⟩⟩
  case round =>
    obtain ⟨rfl, ⟨rfl, rfl, rfl⟩ | ⟨rfl, rfl, rfl⟩ | ⟨rfl, rfl, rfl⟩⟩ := hrel
    · go_wp2_with fail
      go_roundg 1
      case measure => omega
      case rel => exact ⟨rfl, .inr (.inl ⟨rfl, by first | rfl | rw [e1] | go_num, by first | rfl | go_num⟩)⟩
    · go_wp2_with fail
      go_roundg 0
      case measure => omega
      case rel => exact ⟨rfl, .inr (.inr ⟨rfl, by first | rfl | rw [e2] | go_num, by first | rfl | go_num⟩)⟩
    · clear kb0 kb1
      go_wp2_with (go_at_call 155; refine HG.out.mono ?_; rintro e w1 ⟨v0, rfl, ho, hw1⟩; refine Hid.out ?_)
      have HO := Lib.hid ho
      have HW1 := Lib.hid hw1
      clear ho hw1 HG
      refine Lib.hid ?_
      go_wp2_with fail
      go_loopg [6, 27] 2 (fun k s6 s27 wr => Below w.heap.size w wr ∧ ((k = 2 ∧ KOwns KR w.heap.size s6 [] wr ∧ s27 = .int .i64 0) ∨ (k = 1 ∧ KOwns KR w.heap.size s6 l1 wr ∧ s27 = .int .i64 1) ∨ (k = 0 ∧ KOwns KR w.heap.size s6 (l1 ++ l2) wr ∧ s27 = .int .i64 2)))
      case atStart => exact ⟨HW1.out, .inl ⟨rfl, HO.out, rfl⟩⟩
      case round =>
        clear HO HW1
        obtain ⟨hb, ⟨rfl, ho, rfl⟩ | ⟨rfl, ho, rfl⟩ | ⟨rfl, ho, rfl⟩⟩ := hrel
        · have HO := Lib.hid ho
          have HBw := Lib.hid hb
          have HK := Lib.hid (H1.out.below okR hb)
          have kb := (cell_of_row wr b 0 _ _ _ (HB.out.below hb)).trans rfl
          simp only [← N1.out, ← N2.out] at kb
          have HLE := Lib.hid (show ([] : List Rm).length + l1.length ≤ 1000000 by have := N1.out; have := N2.out; simp; omega)
          clear ho hb
          go_wp2_with (refine kappend KR okR rfl _ _ rfl w.heap.size _ [] l1 rfl HO.out _ rfl HK.out HBw.out.size HLE.out (fun v' w' ho hg => ?_); refine Hid.out ?_)
          have HO2 := Lib.hid ho
          have HB2 := Lib.hid (kbelowOwn HBw.out HO.out (Nat.le_refl _) hg)
          clear ho hg HO HBw HK kb
          refine Lib.hid ?_
          go_wp2_with fail
          go_roundg 1
          case measure => omega
          case rel => exact ⟨HB2.out, .inr (.inl ⟨rfl, HO2.out, by first | rfl | go_num⟩)⟩
        · have HO := Lib.hid ho
          have HBw := Lib.hid hb
          have HK := Lib.hid (H2.out.below okR hb)
          have kb := (cell_of_row wr b 1 _ _ _ (HB.out.below hb)).trans rfl
          simp only [← N1.out, ← N2.out] at kb
          have HLE := Lib.hid (show (l1 : List Rm).length + l2.length ≤ 1000000 by have := N1.out; have := N2.out; simp; omega)
          clear ho hb
          go_wp2_with (refine kappend KR okR rfl _ _ rfl w.heap.size _ l1 l2 rfl HO.out _ rfl HK.out HBw.out.size HLE.out (fun v' w' ho hg => ?_); refine Hid.out ?_)
          have HO2 := Lib.hid ho
          have HB2 := Lib.hid (kbelowOwn HBw.out HO.out (Nat.le_refl _) hg)
          clear ho hg HO HBw HK kb
          refine Lib.hid ?_
          go_wp2_with fail
          go_roundg 0
          case measure => omega
          case rel => exact ⟨HB2.out, .inr (.inr ⟨rfl, HO2.out, by first | rfl | go_num⟩)⟩
        · have HO := Lib.hid ho
          have HBw := Lib.hid hb
          clear ho hb
          go_wp2_with fail
          go_ret
          exact ⟨_, rfl, HO.out, HBw.out⟩
end Go.Proofs.YtomnpfbebimpkaaGreatDoor

/-
  The walks of equalIn, keyIn and all of package undo.
-/
namespace Go.Proofs.YtomnpfbebimpkaaGreatDoor
set_option maxRecDepth 20000
open Go.RowKit

/-- a condition that a call gives: a function with its table in a box -/
def CndRet (g : Nat) (v : Value) (w : World) (e : Ending) (w' : World) : Prop := e = .returned (.func (.func g) #[] #[.pointer (some ⟨w.heap.size, 0, none⟩)]) ∧ Blk w.heap.size #[v] 27 w' ∧ Below w.heap.size w w'
theorem any_not (q : Rm → Bool) (l : List Rm) : (!(l.any fun r => !q r)) = l.all q := by
  induction l with
  | nil => rfl
  | cons a l ih => rw [List.any_cons, List.all_cons, ← ih]; cases q a <;> simp
end Go.Proofs.YtomnpfbebimpkaaGreatDoor

/-
  The walk of swap of package undo.
-/
namespace Go.Proofs.YtomnpfbebimpkaaGreatDoor
set_option maxRecDepth 20000
open Go.RowKit

/-- what swap gives: the error, a list of one's own -/
def SwpRet (w : World) (us gs cs : List Ru) (e : Ending) (w' : World) : Prop := ∃ v L, e = .returned (.tuple #[v, .int .i64 (swapE us gs cs)]) ∧ L.map (·.u) = swapV us gs cs ∧ InS w v L w'
theorem SwpRet.no {w W : World} {us gs cs : List Ru} {n : Int} (h : swapE us gs cs = n) (hn : n ≠ 0) (hb : Below w.heap.size w W) : SwpRet w us gs cs (.returned (.tuple #[.slice none 0 0, .int .i64 n])) W :=
  ⟨.slice none 0 0, [], by rw [h], by unfold swapV; rw [if_neg (by rw [h]; exact hn)]; rfl, KOwns.nil _ _, fun y hy => (by cases hy), hb⟩
/-- the three lists -/
def SwS (w0 : World) (v : Value) (l : List Rm) (vg : Value) (g : List Rm) (vc : Value) (c : List Rm) (W : World) : Prop := RLies v l W ∧ RLies vg g W ∧ RLies vc c W ∧ Env w0 W
theorem SwS.below {w0 : World} {v vg vc : Value} {l g c : List Rm} {W W' : World} (hb : Below W.heap.size W W') (h : SwS w0 v l vg g vc c W) : SwS w0 v l vg g vc c W' := ⟨h.1.below hb, h.2.1.below hb, h.2.2.1.below hb, h.2.2.2.below hb⟩
section
variable {l g c L : List Rm}
theorem srt_tab {us : List Ru} (h : tabU us = true) : Srt rOrd us := ((tabU_iff us).1 h).2
theorem all_alone (l g : List Rm) : g.all (eqB l) = (aloneL (g.map (·.u)) (l.map (·.u))).isEmpty := by
  unfold aloneL
  induction g with
  | nil => rfl
  | cons a g ih =>
    rw [List.all_cons, ih, List.map_cons, List.filter_cons]
    show (inL a.u (l.map (·.u)) && _) = _
    cases inL a.u (l.map (·.u)) <;> simp
theorem filt_alone (l g : List Rm) : (l.filter fun r => !eqB g r).map (·.u) = aloneL (l.map (·.u)) (g.map (·.u)) := by
  unfold aloneL
  rw [List.filter_map]
  rfl
theorem any_clash (l c : List Rm) : c.any (plB l) = clash (l.map (·.u)) (c.map (·.u)) := by
  unfold clash
  rw [Bool.eq_iff_iff, List.any_eq_true, List.any_eq_true]
  constructor
  · rintro ⟨y, hy, h⟩
    unfold plB at h
    obtain ⟨x, hx, hk⟩ := List.any_eq_true.1 h
    exact ⟨x.u, List.mem_map_of_mem hx, List.any_eq_true.2 ⟨y.u, List.mem_map_of_mem hy, hk⟩⟩
  · rintro ⟨a, ha, h⟩
    obtain ⟨b, hb, hk⟩ := List.any_eq_true.1 h
    obtain ⟨x, hx, rfl⟩ := List.mem_map.1 ha
    obtain ⟨y, hy, rfl⟩ := List.mem_map.1 hb
    exact ⟨y, hy, List.any_eq_true.2 ⟨x, hx, hk⟩⟩
end
section
variable {us gs cs : List Ru}
theorem swapE_form (h : (tabU us && (tabU gs && tabU cs)) = false) : swapE us gs cs = 2 := by unfold swapE; rw [if_pos h]
theorem swapE_none (h : (tabU us && (tabU gs && tabU cs)) = true) (h1 : (aloneL gs us).isEmpty = false) : swapE us gs cs = 4 := by unfold swapE; rw [if_neg (by rw [h]; decide), if_pos h1]
theorem swapE_there (h : (tabU us && (tabU gs && tabU cs)) = true) (h1 : (aloneL gs us).isEmpty = true) (h2 : clash (aloneL us gs) cs = true) : swapE us gs cs = 5 := by
  unfold swapE; rw [if_neg (by rw [h]; decide), if_neg (by rw [h1]; decide), if_pos h2]
theorem swapE_ok (h : (tabU us && (tabU gs && tabU cs)) = true) (h1 : (aloneL gs us).isEmpty = true) (h2 : clash (aloneL us gs) cs = false) : swapE us gs cs = 0 := by
  unfold swapE; rw [if_neg (by rw [h]; decide), if_neg (by rw [h1]; decide), if_neg (by rw [h2]; decide)]
end
/-- a table that a call made, as a list of one's own -/
theorem CpS.ins {w : World} {g : Nat} {L : List Rm} {W : World} (h : CpS w.heap.size w g L.length L W) : InS w (.slice (some ⟨g, 0, none⟩) L.length L.length) L W :=
  ⟨KAt.owns okR h.1 h.2.2.2, fun y hy => (h.2.1 y hy).mono (by have := h.2.2.2; omega), h.2.2.1⟩
theorem KOwns.blkLt {α : Type} {K : Kd α} {base : Nat} {v : Value} {l : List α} {W : World} (h : KOwns K base v l W) {k : Nat} (hk : v.ownBlock = some k) : k < W.heap.size := by
  rcases h.2 with ⟨e, _⟩ | ⟨g, cap, cur, e, _, e3, _⟩
  · rw [e] at hk; cases hk
  · rw [e] at hk
    injection hk with hk
    have hk' : g = k := hk
    subst hk'
    exact (Array.getElem?_eq_some_iff.1 e3).1
/-- what DeleteFunc keeps meanwhile: a table in a box, all that was there -/
def SdS (w0 : World) (Bx : Nat) (v : Value) (W : World) : Prop := Below w0.heap.size w0 W ∧ Blk Bx #[v] 27 W
theorem SdS.below {w0 : World} {Bx : Nat} {v : Value} {W W' : World} (hb : Below W.heap.size W W') (h : SdS w0 Bx v W) : SdS w0 Bx v W' := ⟨h.1.trans (hb.mono h.1.size), h.2.below hb⟩
theorem SdS.stay {w0 : World} {Bx : Nat} {v : Value} {B : Nat} (h1 : w0.heap.size ≤ B) (h2 : Bx ≠ B) : StayS (SdS w0 Bx v) B where
  below := fun h hb => SdS.below hb h
  put := fun _ vs h => ⟨below_stM h.1 h.1.size h1 vs, (heap_stM_other h2 _ _ _).trans h.2⟩
end Go.Proofs.YtomnpfbebimpkaaGreatDoor

/-
  The walks of Forth, Back, Diff and Inverse of package undo.
-/
namespace Go.Proofs.YtomnpfbebimpkaaGreatDoor
set_option maxRecDepth 20000
open Go.RowKit

/-- the cells of an empty patch -/
def nilP : Array Value := #[.slice none 0 0, .slice none 0 0]
/-- what Diff gives: two lists of one's own -/
def DifRet (w : World) (us ks : List Ru) (e : Ending) (w' : World) : Prop := ∃ x1 L1 x2 L2, e = .returned (.agg #[x1, x2]) ∧ L1.map (·.u) = difG us ks ∧ L2.map (·.u) = difG ks us ∧ InS w x1 L1 w' ∧ InS w x2 L2 w'
/-- what DeleteFunc keeps over a copy: a table in a box, the copy's actions -/
def DdS (w0 : World) (Bx : Nat) (v : Value) (g : Nat) (L : List Rm) (W : World) : Prop := SdS w0 Bx v W ∧ ∀ r ∈ L, OwnA (g + 1) r W
section
variable {w0 w1 W W' : World} {Bx g : Nat} {v x x1 x2 : Value} {L L1 L2 l : List Rm} {us ks : List Ru}
theorem DdS.below (h : DdS w0 Bx v g L W) (hb : Below W.heap.size W W') : DdS w0 Bx v g L W' := ⟨SdS.below hb h.1, fun r hr => (h.2 r hr).below hb⟩
theorem DdS.stay (h1 : w0.heap.size ≤ g) (h2 : Bx ≠ g) : StayS (DdS w0 Bx v g L) g where
  below := fun h hb => h.below hb
  put := fun o vs h => ⟨(SdS.stay h1 h2).put o vs h.1, fun r hr => KOwns.other (h.2 r hr) fun k hk _ => heap_stM_other (by omega) _ _ _⟩
/-- a list of one's own, with one cell row ahead of it written -/
theorem InS.row (h : InS w1 x L W) (he : w1.heap.size = w0.heap.size + 1) (hb : Below w0.heap.size w0 w1) (vs : Array Value) : InS w0 x L (W.setRow w0.heap.size vs) :=
  ⟨(KOwns.other h.1 fun k hk _ => setRow_other _ _ _ _ (by omega)).mono (by omega), fun y hy => KOwns.mono (KOwns.other (h.2.1 y hy) fun k hk _ => setRow_other _ _ _ _ (by omega)) (by omega),
    below_setRow (hb.trans (h.2.2.mono (by omega))) (Nat.le_refl _) vs⟩
theorem InS.none (hb : Below w0.heap.size w0 W) : InS w0 (.slice none 0 0) [] W := ⟨KOwns.nil _ _, fun y hy => (by cases hy), hb⟩
theorem DifRet.no (h : (tabU us && tabU ks) = false) (hb : Below w0.heap.size w0 W) : DifRet w0 us ks (.returned (.agg nilP)) W :=
  ⟨_, [], _, [], rfl, by unfold difG; rw [h]; rfl, by unfold difG; rw [Bool.and_comm, h]; rfl, InS.none hb, InS.none hb⟩
end
end Go.Proofs.YtomnpfbebimpkaaGreatDoor

/-
  The walk of Inverse of package undo.
-/
namespace Go.Proofs.YtomnpfbebimpkaaGreatDoor
set_option maxRecDepth 20000
open Go.RowKit

theorem res_three {fn : Func} {a p u : Tmp} {ty : TypeId} (h : fn.results = #[.tmp a, .cell p ty, .tmp u]) {tmps : Array Value} {P : Program} {w : World} {g : Nat} {t : TypeId} {cs : Array Value} {d : TypeDesc} {x y : Value}
    (ha : tmps.getD a undef = x) (hp : tmps.getD p undef = .pointer (some ⟨g, 0, none⟩)) (hx : tmps.getD u undef = y) (hg : Blk g cs t w)
    (hu : P.underlying ty = some d) (hd : d.isRow = true) (hi : (P.info? ty).map (·.size) = some cs.size) :
    (results fn tmps).run P w = .ok (.tuple #[x, .agg cs, y]) w := by
  have e := run_loadVar_row (P := P) w g t ty cs (0, 0) d hg hu (by cases d <;> first | rfl | (simp [TypeDesc.isRow] at hd)) hi
  simp only [results, h]
  rw [Array.getD_eq_getD_getElem?] at hp ha hx
  simp [hp, ha, hx, asAddr, e]
/-- what goes and comes by a change -/
def invG (us : List Ru) (m : Mu) (room : Int) : List Ru := if applyE us m room = 0 then difG us (applyL us m) else []
def invN (us : List Ru) (m : Mu) (room : Int) : List Ru := if applyE us m room = 0 then difG (applyL us m) us else []
/-- what Inverse gives: three lists of one's own -/
def InvRet (w : World) (us : List Ru) (m : Mu) (room : Int) (e : Ending) (w' : World) : Prop :=
  ∃ v L x1 L1 x2 L2, e = .returned (.tuple #[v, .agg #[x1, x2], .int .i64 (applyE us m room)]) ∧ L.map (·.u) = applyV us m room ∧ L1.map (·.u) = invG us m room ∧ L2.map (·.u) = invN us m room ∧ InS w v L w' ∧ InS w x1 L1 w' ∧ InS w x2 L2 w'
/-- a list of one's own, with a row ahead of it written, further up -/
theorem InS.row1 {w0 w1 W : World} {x : Value} {L : List Rm} {B : Nat} (h : InS w1 x L W) (hB : w0.heap.size ≤ B) (he : B < w1.heap.size) (hb : Below w0.heap.size w0 w1) (vs : Array Value) : InS w0 x L (W.setRow B vs) :=
  ⟨(KOwns.other h.1 fun k hk _ => setRow_other _ _ _ _ (by omega)).mono hb.size, fun y hy => KOwns.mono (KOwns.other (h.2.1 y hy) fun k hk _ => setRow_other _ _ _ _ (by omega)) hb.size,
    below_setRow (hb.trans (h.2.2.mono hb.size)) hB vs⟩
end Go.Proofs.YtomnpfbebimpkaaGreatDoor
