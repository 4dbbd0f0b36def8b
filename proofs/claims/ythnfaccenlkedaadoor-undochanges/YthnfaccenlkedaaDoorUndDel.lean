/-
  slices.DeleteFunc over rules of one's own, whatever else is kept meanwhile; slices.Clone of rules; slices.Concat of any two lists.
-/
import Derived.Test.YthnfaccenlkedaaDoorPackModB
namespace Go.Proofs.YthnfaccenlkedaaDoor
set_option maxRecDepth 20000
open Go.RowKit

set_option maxHeartbeats 1000000 in
theorem rindex_in (g : Nat) (cb : Array Value) (q : Rm → Bool) (eg : ∀ args w, (callFunc g args).run Tryd.prog w = .ok (.enter g args) w) (p : Option Addr) (cap : Nat) (l : List Rm) (hlen : l.length ≤ 140737488355328) (w : World)
    (hl : KLies KR (.slice p l.length cap) l w) (hp : KPred agR (· ∈ l) g cb q w) :
    Calls Tryd.prog 34 #[.slice p l.length cap, .func (.func g) #[] cb] w fun e w' => e = .returned (.int .i64 (kidx q l)) ∧ Below w.heap.size w w' := by
  have HL := Lib.hid hl
  have HP := Lib.hid hp
  clear hl hp
  go_enter Tryd.func34, Tryd.ntmps34
  go_wp2
  go_loopg [8] l.length (fun k i wr => ∃ r : Nat, r + k = l.length ∧ i = .int .i64 r ∧ (∀ j b, j < r → l[j]? = some b → q b = false) ∧ Below w.heap.size w wr)
  case atStart => exact ⟨0, by omega, rfl, fun j _ h => absurd h (by omega), Below.refl _ _⟩
  case round =>
    obtain ⟨r, hr, rfl, hq, hb⟩ := hrel
    have HQ := Lib.hid hq
    have HB := Lib.hid hb
    clear hq hb
    by_cases hlt : r < l.length
    · have hltI : (r : Int) < (l.length : Int) := by omega
      obtain ⟨c, hc⟩ := lt_some hlt
      obtain ⟨b, o, rfl, hrg⟩ := (HL.out.below okR HB.out).at hc
      have HR := Lib.hid hrg
      have HI := Lib.hid hc
      have HC := Lib.hid (show Calls Tryd.prog g (#[.agg (rca c)] ++ cb) wr _ from HP.out wr HB.out c (List.mem_of_getElem? hc))
      clear hrg hc
      cases hq : q c
      · rw [hq] at HC
        have HH := Lib.hid hq
        clear hq
        go_wp2_with (first
          | (refine wpList_load_mid rfl 51 _ rfl b (o + r * 32) rfl (rcl c) _ HR.out Tryd.underlying51 rfl infoR ?_)
          | (go_at_fn g; refine HC.out.mono ?_; rintro e w1 ⟨rfl, hw1⟩))
        have HB1 := Lib.hid (HB.out.trans (hw1.mono HB.out.size))
        clear hw1 HC HR
        go_roundg (l.length - (r + 1))
        case measure => omega
        case rel =>
          refine ⟨r + 1, by omega, by go_num, fun j b' hj hb' => ?_, HB1.out⟩
          by_cases e : j = r
          · subst e
            rw [HI.out] at hb'
            rw [← Option.some.inj hb']; exact HH.out
          · exact HQ.out j b' (by omega) hb'
      · rw [hq] at HC
        have HH := Lib.hid (kidx_hit HI.out hq HQ.out)
        clear hq
        go_wp2_with (first
          | (refine wpList_load_mid rfl 51 _ rfl b (o + r * 32) rfl (rcl c) _ HR.out Tryd.underlying51 rfl infoR ?_)
          | (go_at_fn g; refine HC.out.mono ?_; rintro e w1 ⟨rfl, hw1⟩))
        have HB1 := Lib.hid (HB.out.trans (hw1.mono HB.out.size))
        clear hw1 HC HR
        go_ret
        exact ⟨retI HH.out.symm, HB1.out⟩
    · have hltI : ¬ (r : Int) < (l.length : Int) := by omega
      have HH := Lib.hid (kidx_none (q := q) (l := l) fun j b hj => HQ.out j b (by have := (List.getElem?_eq_some_iff.1 hj).1; omega) hj)
      go_wp2
      go_ret
      exact ⟨retI HH.out.symm, HB.out⟩
theorem rcontains_in (g : Nat) (cb : Array Value) (q : Rm → Bool) (eg : ∀ args w, (callFunc g args).run Tryd.prog w = .ok (.enter g args) w) (v : Value) (l : List Rm) (hlen : l.length ≤ 140737488355328) (w : World)
    (hl : KLies KR v l w) (hp : KPred agR (· ∈ l) g cb q w) :
    Calls Tryd.prog 45 #[v, .func (.func g) #[] cb] w fun e w' => e = .returned (.bool (l.any q)) ∧ Below w.heap.size w w' := by
  obtain ⟨p, cap, rfl⟩ := hl.form
  have HI := Lib.hid (rindex_in g cb q eg p cap l hlen w hl hp)
  have HA := Lib.hid (kidx_any q l)
  clear hl hp
  generalize kidx q l = y at *
  go_enter Tryd.func45, Tryd.ntmps45
  go_wp2_with (go_at_call 34; refine HI.out.mono ?_; rintro e w1 ⟨rfl, hw1⟩)
  go_ret
  exact ⟨ret_bool HA.out, hw1⟩
/-- what stays when memory is made, or cells are written in a block -/
structure StayS (S : World → Prop) (B : Nat) : Prop where
  below : ∀ {W W' : World}, S W → Below W.heap.size W W' → S W'
  put : ∀ {W : World} (o : Nat) (vs : List Value), S W → S (W.setCells B o vs)
/-- a function answers a condition on rules wherever S holds -/
def PredS (g : Nat) (cb : Array Value) (q : Rm → Bool) (S : World → Prop) (l : List Rm) : Prop :=
  ∀ W, S W → ∀ c, c ∈ l → Calls Tryd.prog g (#[agR c] ++ cb) W fun e w' => e = .returned (.bool (q c)) ∧ Below W.heap.size W w'
/-- what DeleteFunc leaves: the rules that stay, and what the caller keeps -/
def RdlR (base : Nat) (S : World → Prop) (L : List Rm) (e : Ending) (w' : World) : Prop := ∃ v, e = .returned v ∧ KOwns KR base v L w' ∧ S w'
/-- what DeleteFunc has while it goes over the rules -/
def RlS (S : World → Prop) (q : Rm → Bool) (l : List Rm) (B cap : Nat) (i j : Nat) (W : World) : Prop :=
  ∃ d, KeptR q l i j d ∧ KAt KR B cap d W ∧ S W
set_option maxHeartbeats 2000000 in
theorem rdl_some (g : Nat) (cb : Array Value) (q : Rm → Bool) (eg : ∀ args w, (callFunc g args).run Tryd.prog w = .ok (.enter g args) w) (S : World → Prop) (B cap base : Nat) (l : List Rm) (hlen : l.length ≤ 100000) (w : World) (hbase : base ≤ B)
    (hl : KAt KR B cap l w) (hst : StayS S B) (hp : PredS g cb q S l) (hS : S w) (k0 : Nat) (x0 : Rm) (hidx : kidx q l = k0) (hx0 : l[k0]? = some x0) (h1 : q x0 = true) (h2 : ∀ (j : Nat) b, j < k0 → l[j]? = some b → q b = false) :
    Calls Tryd.prog 19 #[.slice (some ⟨B, 0, none⟩) l.length cap, .func (.func g) #[] cb] w (RdlR base S (l.filter fun c => !q c)) := by
  have HI := Lib.hid (rindex_in g cb q eg (some ⟨B, 0, none⟩) cap l (by omega) w (hl.lies _ rfl _ hl.1) (fun W hb c hc => hp W (hst.below hS hb) c hc))
  rw [hidx] at HI
  have HS := Lib.hid (show RlS S q l B cap k0 (k0 + 1) w from ⟨l, KeptR.start hx0 h1 h2, hl, hS⟩)
  have hk0 : k0 < l.length := (List.getElem?_eq_some_iff.1 hx0).1
  have hcap : l.length ≤ cap := hl.1
  have HP := Lib.hid hp
  have HST := Lib.hid hst
  clear hl hp hidx hx0 h1 h2 hst hS
  have hne1 : ((k0 : Int) == -1) = false := beq_eq_false_iff_ne.2 (by omega)
  go_enter Tryd.func19, Tryd.ntmps19
  go_wp2_with (go_at_call 34; refine HI.out.mono ?_; rintro e w1 ⟨rfl, hw1⟩)
  have HS1 := Lib.hid (show RlS S q l B cap k0 (k0 + 1) w1 from by
    obtain ⟨d, a, b, c⟩ := HS.out
    exact ⟨d, a, b.below hw1, HST.out.below c hw1⟩)
  clear hw1 HS HI
  go_loopg [5, 6] (l.length - (k0 + 1)) (fun k s5 s6 wr => ∃ i j : Nat, j + k = l.length ∧ s5 = .int .i64 i ∧ s6 = .int .i64 j ∧ RlS S q l B cap i j wr)
  case atStart => exact ⟨k0, k0 + 1, by omega, rfl, by go_num, HS1.out⟩
  case round =>
    clear HS1
    obtain ⟨i, j, hj, rfl, rfl, d, hK, hO, hM⟩ := hrel
    have HK := Lib.hid hK
    have HO := Lib.hid hO
    have HM := Lib.hid hM
    clear hK hO hM
    by_cases hlt : j < l.length
    · have hltI : (j : Int) < (l.length : Int) := by omega
      have hij := HK.out.lt
      have hilI : (i : Int) < (l.length : Int) := by omega
      have hil : i < l.length := by omega
      have hic : i < cap := by omega
      obtain ⟨x, hx⟩ := lt_some hlt
      have HX := Lib.hid hx
      have HR := Lib.hid (show wr.rangeAt B (j * 32) (rcl x) from HO.out.range (by rw [HK.out.post j (Nat.le_refl _)]; exact hx))
      have HM1 := Lib.hid (HST.out.below HM.out (below1 wr (.cells (rca x) 51)))
      have HC := Lib.hid (show Calls Tryd.prog g (#[.agg (rca x)] ++ cb) (wr.alloc (.cells (rca x) 51)) _ from HP.out (wr.alloc (.cells (rca x) 51)) HM1.out x (List.mem_of_getElem? hx))
      have R0 := Lib.hid (Blk.new wr (rca x) 51)
      have HO1 := Lib.hid (HO.out.below (below1 wr (.cells (rca x) 51)))
      clear hx HO HM
      cases hq : q x
      · rw [hq] at HC
        have HK1 := Lib.hid (HK.out.keep HX.out hq)
        clear hq
        go_wp2_with (first
          | (refine wpList_load_mid rfl 51 _ rfl B (j * 32) rfl (rcl x) _ HR.out Tryd.underlying51 rfl infoR ?_)
          | (refine wpList_store_row rfl 51 _ _ rfl wr.heap.size (rca x) rfl rfl 51 _ (heap_alloc_new _ _) (by kernel_rfl) rfl (rca_one _) ?_; rw [World.setRow_alloc_new])
          | (refine wpList_load_row rfl 51 _ rfl wr.heap.size rfl 51 (rca x) (0, 0) _ R0.out Tryd.underlying51 rfl infoR ?_))
        refine HC.out.mono ?_
        rintro e w2 ⟨rfl, hw2⟩
        have R1 := Lib.hid (R0.out.below hw2)
        have HO2 := Lib.hid (HO1.out.below hw2)
        have HM2 := Lib.hid (HST.out.below HM1.out hw2)
        clear hw2 HC R0 HR HO1 HM1
        go_upto_region 10 with (first
          | (refine kstore KR okR infoR rfl (.tmp 33) (.tmp 32) rfl B i cap d x rfl rfl HO2.out hic ?_)
          | (refine wpList_load_row rfl 51 (.tmp 7) rfl wr.heap.size rfl 51 (rca x) (0, 0) _ R1.out Tryd.underlying51 rfl infoR ?_))
        have HO3 := Lib.hid (HO2.out.set okR (show i < d.length by rw [HK.out.len]; exact hil) x)
        have HM3 := Lib.hid (HST.out.put (i * 32) (rcl x) HM2.out)
        clear HO2 HM2 R1
        generalize w2.setCells B (i * 32) (rcl x) = w3 at *
        go_wp2
        go_roundg (l.length - (j + 1))
        case measure => omega
        case rel => exact ⟨i + 1, j + 1, by omega, by go_num, by go_num, d.set i x, HK1.out, HO3.out, HM3.out⟩
      · rw [hq] at HC
        have HK1 := Lib.hid (HK.out.skip HX.out hq)
        clear hq
        go_wp2_with (first
          | (refine wpList_load_mid rfl 51 _ rfl B (j * 32) rfl (rcl x) _ HR.out Tryd.underlying51 rfl infoR ?_)
          | (refine wpList_store_row rfl 51 _ _ rfl wr.heap.size (rca x) rfl rfl 51 _ (heap_alloc_new _ _) (by kernel_rfl) rfl (rca_one _) ?_; rw [World.setRow_alloc_new])
          | (refine wpList_load_row rfl 51 _ rfl wr.heap.size rfl 51 (rca x) (0, 0) _ R0.out Tryd.underlying51 rfl infoR ?_))
        refine HC.out.mono ?_
        rintro e w2 ⟨rfl, hw2⟩
        have HO2 := Lib.hid (HO1.out.below hw2)
        have HM2 := Lib.hid (HST.out.below HM1.out hw2)
        clear hw2 HC R0 HR HO1 HM1
        go_wp2
        go_roundg (l.length - (j + 1))
        case measure => omega
        case rel => exact ⟨i, j + 1, by omega, rfl, by go_num, d, HK1.out, HO2.out, HM2.out⟩
    · obtain rfl : j = l.length := by omega
      have hij := HK.out.lt
      have hdl := HK.out.len
      have hlt' : ¬ ((l.length : Int) < (l.length : Int)) := by omega
      have hid : i ≤ d.length := by omega
      have hlk : (d.take i).length = i := by rw [List.length_take]; omega
      have hO1 : KAt KR B cap (d.take i) wr := HO.out.cut (by rw [hlk]; omega) fun k a hk => by
        have hk' : k < i := by have := (List.getElem?_eq_some_iff.1 hk).1; omega
        rwa [List.getElem?_take_of_lt hk'] at hk
      have hth : ∀ t, t < (l.length - i) * 32 → (wr.cell? ⟨B, i * 32 + t, none⟩).isSome = true ∧ wr.frozen? ⟨B, i * 32 + t, none⟩ = false := fun t ht => by
        have := HO.out.there (i := i + t / 32) (by omega) (t % 32) (by show t % 32 < 32; omega)
        rwa [show (i + t / 32) * KR.n + t % 32 = i * 32 + t by show (i + t / 32) * 32 + t % 32 = _; omega] at this
      have hcl : ∀ c, ∃ vs, ∀ ty, (Builtin.clear_ #[22] ty #[.slice (some ⟨B, i * 32, none⟩) (l.length - i) c]).run Tryd.prog wr = .ok (.tuple #[]) (wr.setCells B (i * 32) vs) := fun c => by
        obtain ⟨vs, h⟩ := run_clear_rules wr (ty := 0) B (i * 32) (l.length - i) c (by omega) (fun t ht => (hth t ht).1) (fun t ht => (hth t ht).2)
        exact ⟨vs, fun ty => h⟩
      obtain ⟨vs, hcl'⟩ := hcl (cap - i)
      have HO2 := Lib.hid (show KAt KR B cap (d.take i) (wr.setCells B (i * 32) vs) from by have := hO1.wipe vs; rwa [hlk] at this)
      have HM2 := Lib.hid (HST.out.put (i * 32) vs HM.out)
      have HD := Lib.hid HK.out.done
      have HLK := Lib.hid hlk
      have hci : ¬ cap = i := by omega
      clear hO1 hcl HO HM hth hlk
      go_wp2
      go_ret
      refine ⟨_, rfl, ?_, HM2.out⟩
      have := KAt.owns okR HO2.out hbase
      rw [HLK.out] at this
      rw [← HD.out]
      exact this
set_option maxHeartbeats 1000000 in
theorem rdl_any (g : Nat) (cb : Array Value) (q : Rm → Bool) (eg : ∀ args w, (callFunc g args).run Tryd.prog w = .ok (.enter g args) w) (S : World → Prop) (v : Value) (base : Nat) (l : List Rm) (hlen : l.length ≤ 100000) (w : World)
    (hl : KOwns KR base v l w) (hst : ∀ B, v.ownBlock = some B → StayS S B) (hsb : ∀ {W W' : World}, S W → Below W.heap.size W W' → S W') (hp : PredS g cb q S l) (hS : S w) :
    Calls Tryd.prog 19 #[v, .func (.func g) #[] cb] w (RdlR base S (l.filter fun c => !q c)) := by
  rcases kidx_cases q l with ⟨e, h⟩ | ⟨i, x, e, hi, h1, h2⟩
  · obtain ⟨p, cap, rfl⟩ := hl.form
    have HI := Lib.hid (rindex_in g cb q eg p cap l (by omega) w (hl.lies okR) (fun W hb c hc => hp W (hsb hS hb) c hc))
    rw [e] at HI
    have HF := Lib.hid (show l.filter (fun c => !q c) = l from List.filter_eq_self.2 fun x hx => by rw [h x hx]; rfl)
    have HL := Lib.hid hl
    have HS := Lib.hid hS
    have HSB := Lib.hid (fun (W W' : World) (h1 : S W) (h2 : Below W.heap.size W W') => hsb h1 h2)
    rw [HF.out]
    clear hl hp e h hS hst hsb
    go_enter Tryd.func19, Tryd.ntmps19
    go_wp2_with (go_at_call 34; refine HI.out.mono ?_; rintro e w1 ⟨rfl, hw1⟩)
    go_ret
    exact ⟨_, rfl, HL.out.below hw1, HSB.out _ _ HS.out hw1⟩
  · rcases hl.kat okR with ⟨_, rfl⟩ | ⟨B, cap, rfl, hb, hk⟩
    · simp at hi
    · exact rdl_some g cb q eg S B cap base l hlen w hb hk (hst B rfl) hp hS i x e hi h1 h2
set_option maxHeartbeats 1000000 in
theorem rclones_any (v : Value) (l : List Rm) (hlen : l.length ≤ 100000) (w : World) (hl : KLies KR v l w) : Calls Tryd.prog 44 #[v] w (OwnRet KR w l) := by
  rcases hl with ⟨rfl, rfl⟩ | ⟨ad, cap, rfl, hcap, hr⟩
  · have HO := Lib.hid (KOwns.nil (K := KR) w.heap.size w)
    go_enter Tryd.func44, Tryd.ntmps44
    have hq := Lib.run_eql_slice_nil (P := Tryd.prog) w 22 51 none 0 0 0 0 Tryd.underlying22
    go_wp2
    go_ret
    exact ⟨_, rfl, HO.out, Below.refl _ _⟩
  · have HL := Lib.hid (show KLies KR (.slice (some ad) l.length cap) l (w.alloc (.cells #[] 51)) from (show KLies KR (.slice (some ad) l.length cap) l w from .inr ⟨ad, cap, rfl, hcap, hr⟩).below okR (below1 _ _))
    have hq := Lib.run_eql_slice_nil (P := Tryd.prog) w 22 51 (some ad) l.length cap 0 0 Tryd.underlying22
    clear hr
    go_enter Tryd.func44, Tryd.ntmps44
    go_wp2_with (first
      | (refine kbuildNone KR okR rfl rfl ?_)
      | (refine kappend KR okR rfl _ _ rfl w.heap.size _ [] l rfl (KOwns.built w _ (Nat.le_refl _)) _ rfl HL.out (by simp) (by simp; omega) (fun v' w' ho hg => ?_)))
    have hb := kbelowOwn (below1 w (.cells #[] 51)) (KOwns.built (K := KR) w w.heap.size (Nat.le_refl _)) (Nat.le_refl _) hg
    go_ret
    exact ⟨_, rfl, ho, hb⟩
set_option maxHeartbeats 1000000 in
theorem rgrow_all (n : Nat) (hlen : n ≤ 1000000) (w : World) : Calls Tryd.prog 75 #[.slice none 0 0, .int .i64 (n : Int)] w (GrwRet w) := by
  by_cases hn : 0 < n
  · exact rgrow_any n hn hlen w
  · obtain rfl : n = 0 := by omega
    go_enter Tryd.func75, Tryd.ntmps75
    go_wp2_with fail
    go_ret
    exact ⟨_, rfl, KOwns.nil _ _, Below.refl _ _⟩
set_option maxHeartbeats 2000000 in
theorem concat_all (b : Nat) (v1 v2 : Value) (l1 l2 : List Rm) (hlen : l1.length + l2.length ≤ 1000000) (w : World) (hB : Blk b #[v1, v2] 22 w) (h1 : KLies KR v1 l1 w) (h2 : KLies KR v2 l2 w) :
    Calls Tryd.prog 48 #[.slice (some ⟨b, 0, none⟩) 2 2] w (OwnRet KR w (l1 ++ l2)) := by
  obtain ⟨p1, c1, rfl⟩ := h1.form
  obtain ⟨p2, c2, rfl⟩ := h2.form
  have HB := Lib.hid hB
  have H1 := Lib.hid h1
  have H2 := Lib.hid h2
  have kb0 : w.cell? ⟨b, 0, none⟩ = some (.slice p1 l1.length c1) := (cell_of_row w b 0 _ _ _ hB).trans rfl
  have kb1 : w.cell? ⟨b, 1, none⟩ = some (.slice p2 l2.length c2) := (cell_of_row w b 1 _ _ _ hB).trans rfl
  obtain ⟨n1, hn1⟩ : ∃ n, n = l1.length := ⟨_, rfl⟩
  obtain ⟨n2, hn2⟩ : ∃ n, n = l2.length := ⟨_, rfl⟩
  rw [← hn1] at kb0 H1 hlen
  rw [← hn2] at kb1 H2 hlen
  have N1 := Lib.hid hn1
  have N2 := Lib.hid hn2
  clear hB h1 h2 hn1 hn2
  have g1 : ¬ ((n1 : Int) < 0) := by omega
  have g2 : ¬ (((n1 + n2 : Nat) : Int) < 0) := by omega
  have e1 : wrap64 (0 + (n1 : Int)) = (n1 : Int) := by unfold wrap64; omega
  have e2 : wrap64 ((n1 : Int) + (n2 : Int)) = ((n1 + n2 : Nat) : Int) := by unfold wrap64; omega
  have HG := Lib.hid (rgrow_all (n1 + n2) hlen w)
  go_enter Tryd.func48, Tryd.ntmps48
  go_wp2_with fail
  go_loopg [3, 11] 2 (fun k s3 s11 wr => w = wr ∧ ((k = 2 ∧ s3 = .int .i64 0 ∧ s11 = .int .i64 0) ∨ (k = 1 ∧ s3 = .int .i64 (n1 : Int) ∧ s11 = .int .i64 1) ∨ (k = 0 ∧ s3 = .int .i64 ((n1 + n2 : Nat) : Int) ∧ s11 = .int .i64 2)))
  case atStart => exact ⟨rfl, .inl ⟨rfl, rfl, rfl⟩⟩
  case round =>
    obtain ⟨rfl, ⟨rfl, rfl, rfl⟩ | ⟨rfl, rfl, rfl⟩ | ⟨rfl, rfl, rfl⟩⟩ := hrel
    · go_wp2_with fail
      go_roundg 1
      case measure => omega
      case rel => exact ⟨rfl, .inr (.inl ⟨rfl, by first | rfl | rw [e1] | go_num, by first | rfl | go_num⟩)⟩
    · go_wp2_with fail
      go_roundg 0
      case measure => omega
      case rel => exact ⟨rfl, .inr (.inr ⟨rfl, by first | rfl | rw [e2] | go_num, by first | rfl | go_num⟩)⟩
    · clear kb0 kb1
      go_wp2_with (go_at_call 75; refine HG.out.mono ?_; rintro e w1 ⟨v0, rfl, ho, hw1⟩; refine Hid.out ?_)
      have HO := Lib.hid ho
      have HW1 := Lib.hid hw1
      clear ho hw1 HG
      refine Lib.hid ?_
      go_wp2_with fail
      go_loopg [6, 27] 2 (fun k s6 s27 wr => Below w.heap.size w wr ∧ ((k = 2 ∧ KOwns KR w.heap.size s6 [] wr ∧ s27 = .int .i64 0) ∨ (k = 1 ∧ KOwns KR w.heap.size s6 l1 wr ∧ s27 = .int .i64 1) ∨ (k = 0 ∧ KOwns KR w.heap.size s6 (l1 ++ l2) wr ∧ s27 = .int .i64 2)))
      case atStart => exact ⟨HW1.out, .inl ⟨rfl, HO.out, rfl⟩⟩
      case round =>
        clear HO HW1
        obtain ⟨hb, ⟨rfl, ho, rfl⟩ | ⟨rfl, ho, rfl⟩ | ⟨rfl, ho, rfl⟩⟩ := hrel
        · have HO := Lib.hid ho
          have HBw := Lib.hid hb
          have HK := Lib.hid (H1.out.below okR hb)
          have kb := (cell_of_row wr b 0 _ _ _ (HB.out.below hb)).trans rfl
          simp only [← N1.out, ← N2.out] at kb
          have HLE := Lib.hid (show ([] : List Rm).length + l1.length ≤ 1000000 by have := N1.out; have := N2.out; simp; omega)
          clear ho hb
          go_wp2_with (refine kappend KR okR rfl _ _ rfl w.heap.size _ [] l1 rfl HO.out _ rfl HK.out HBw.out.size HLE.out (fun v' w' ho hg => ?_); refine Hid.out ?_)
          have HO2 := Lib.hid ho
          have HB2 := Lib.hid (kbelowOwn HBw.out HO.out (Nat.le_refl _) hg)
          clear ho hg HO HBw HK kb
          refine Lib.hid ?_
          go_wp2_with fail
          go_roundg 1
          case measure => omega
          case rel => exact ⟨HB2.out, .inr (.inl ⟨rfl, HO2.out, by first | rfl | go_num⟩)⟩
        · have HO := Lib.hid ho
          have HBw := Lib.hid hb
          have HK := Lib.hid (H2.out.below okR hb)
          have kb := (cell_of_row wr b 1 _ _ _ (HB.out.below hb)).trans rfl
          simp only [← N1.out, ← N2.out] at kb
          have HLE := Lib.hid (show (l1 : List Rm).length + l2.length ≤ 1000000 by have := N1.out; have := N2.out; simp; omega)
          clear ho hb
          go_wp2_with (refine kappend KR okR rfl _ _ rfl w.heap.size _ l1 l2 rfl HO.out _ rfl HK.out HBw.out.size HLE.out (fun v' w' ho hg => ?_); refine Hid.out ?_)
          have HO2 := Lib.hid ho
          have HB2 := Lib.hid (kbelowOwn HBw.out HO.out (Nat.le_refl _) hg)
          clear ho hg HO HBw HK kb
          refine Lib.hid ?_
          go_wp2_with fail
          go_roundg 0
          case measure => omega
          case rel => exact ⟨HB2.out, .inr (.inr ⟨rfl, HO2.out, by first | rfl | go_num⟩)⟩
        · have HO := Lib.hid ho
          have HBw := Lib.hid hb
          clear ho hb
          go_wp2_with fail
          go_ret
          exact ⟨_, rfl, HO.out, HBw.out⟩
end Go.Proofs.YthnfaccenlkedaaDoor
