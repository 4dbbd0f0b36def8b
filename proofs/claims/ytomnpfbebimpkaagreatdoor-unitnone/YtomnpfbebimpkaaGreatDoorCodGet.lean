/-
  A reader that goes on when the bytes end (numbers are 0 then, and it is short): no word of any program. What it reads of bytes is what is read of them, or it is short.
-/
import Derived.Test.YtomnpfbebimpkaaGreatDoorPackCodM
namespace Go.Proofs.YtomnpfbebimpkaaGreatDoor
set_option maxRecDepth 20000

/-- what is still to be read; whether there were too few -/
abbrev Sta := List Int × Bool
def gN (s : Nat) (x : Sta) : Int × Sta := if x.1.length < s then (0, ([], true)) else (valB (x.1.take s), (x.1.drop s, x.2))
def gNs : List Nat → Sta → List Int × Sta
  | [], x => ([], x)
  | s :: ss, x => ((gN s x).1 :: (gNs ss (gN s x).2).1, (gNs ss (gN s x).2).2)
def gMany {α : Type} (g : Sta → α × Sta) : Nat → Sta → List α × Sta
  | 0, x => ([], x)
  | n + 1, x => if x.2 = true then ([], x) else ((g x).1 :: (gMany g n (g x).2).1, (gMany g n (g x).2).2)
def gAct (x : Sta) : Ac × Sta := (mkA (gNs actS x).1, (gNs actS x).2)
def gActs (x : Sta) : List Ac × Sta := gMany gAct (gN 1 x).1.toNat (gN 1 x).2
def gRule (x : Sta) : Ru × Sta := (mkR (gNs ruleS x).1 (gActs (gNs ruleS x).2).1, (gActs (gNs ruleS x).2).2)
def gRules (x : Sta) : List Ru × Sta := gMany gRule (gN 2 x).1.toNat (gN 2 x).2
/-- a change of numbers read; f: what its Check is -/
def mkMf (f : Int → Bool) (ns : List Int) (acts : List Ac) : Mu := ⟨nthI ns 0, cubeOf ns 1, nthI ns 25, acts, nthI ns 26, nthI ns 27, nthI ns 28, f (nthI ns 29)⟩
def gMod (f : Int → Bool) (x : Sta) : (Mu × Bool) × Sta := ((mkMf f (gNs modS x).1 (gActs (gNs modS x).2).1, decide (1 < nthI (gNs modS x).1 29)), (gActs (gNs modS x).2).2)
def gBody (f : Int → Bool) (k t : Int) (x : Sta) : (Ms × Bool) × Sta :=
  if k = 1 then ((⟨k, t, 0, (gMod f x).1.1, 0, zHd, []⟩, (gMod f x).1.2), (gMod f x).2)
  else if k = 6 then ((⟨k, t, (gN 1 x).1, zMu, 0, zHd, []⟩, false), (gN 1 x).2)
  else if k = 8 then ((⟨k, t, 0, zMu, nthI (gNs headS x).1 0, headOf (gNs headS x).1 1, []⟩, false), (gNs headS x).2)
  else if k = 9 ∨ k = 10 then ((⟨k, t, 0, zMu, 0, zHd, (gRules x).1⟩, false), (gRules x).2)
  else ((⟨k, t, 0, zMu, 0, zHd, []⟩, false), x)
def gMs (f : Int → Bool) (x : Sta) : (Ms × Bool) × Sta := gBody f (nthI (gNs [1, 4] x).1 0) (nthI (gNs [1, 4] x).1 1) (gNs [1, 4] x).2
/-- g goes as p does -/
structure Trk {α β : Type} (g : Sta → α × Sta) (p : Rd β) (R : β → α → Prop) : Prop where
  yes : ∀ l x r, p l = some (x, r) → R x (g (l, false)).1 ∧ (g (l, false)).2 = (r, false)
  no : ∀ l, p l = none → (g (l, false)).2 = ([], true)
  short : (g ([], true)).2 = ([], true)
theorem trkN {s : Nat} (hs : 0 < s) : Trk (gN s) (rNum s) (fun x y => y = x) where
  yes := fun l x r h => by
    unfold rNum at h
    split at h
    · injection h with h
      injection h with h1 h2
      subst h1 h2
      unfold gN
      rw [if_neg (by show ¬ l.length < s; omega)]
      exact ⟨rfl, rfl⟩
    · cases h
  no := fun l h => by
    unfold rNum at h
    split at h
    · cases h
    · unfold gN
      rw [if_pos (by show l.length < s; omega)]
  short := by
    unfold gN
    rw [if_pos (by show ([] : List Int).length < s; exact hs)]
theorem trkNs : ∀ {ss : List Nat}, (∀ s ∈ ss, 0 < s) → Trk (gNs ss) (rNums ss) (fun x y => y = x)
  | [], _ => ⟨fun l x r h => by injection h with h; injection h with h1 h2; subst h1 h2; exact ⟨rfl, rfl⟩, fun l h => (by cases h), rfl⟩
  | s :: ss, hs => by
    have h1 := trkN (hs s (List.mem_cons_self ..))
    have h2 := trkNs (ss := ss) fun x hx => hs x (List.mem_cons_of_mem _ hx)
    refine ⟨fun l x r h => ?_, fun l h => ?_, ?_⟩
    · rw [rNums] at h
      cases e1 : rNum s l with
      | none => rw [e1] at h; cases h
      | some y =>
        obtain ⟨n, r1⟩ := y
        rw [e1] at h
        simp only at h
        cases e2 : rNums ss r1 with
        | none => rw [e2] at h; cases h
        | some z =>
          obtain ⟨ns, r2⟩ := z
          rw [e2] at h
          injection h with h
          injection h with h3 h4
          subst h3 h4
          have a1 := h1.yes _ _ _ e1
          have a2 := h2.yes _ _ _ e2
          rw [gNs]
          simp only
          rw [a1.2, a1.1, a2.1]
          exact ⟨rfl, a2.2⟩
    · rw [rNums] at h
      rw [gNs]
      simp only
      cases e1 : rNum s l with
      | none => rw [h1.no _ e1, h2.short]
      | some y =>
        obtain ⟨n, r1⟩ := y
        rw [e1] at h
        simp only at h
        rw [(h1.yes _ _ _ e1).2]
        cases e2 : rNums ss r1 with
        | none => exact h2.no _ e2
        | some z => rw [e2] at h; cases h
    · rw [gNs]
      simp only
      rw [h1.short, h2.short]
section
variable {α β γ δ : Type} {g : Sta → α × Sta} {p : Rd β} {R : β → α → Prop}
theorem Trk.bind {g2 : α → Sta → γ × Sta} {p2 : β → Rd δ} {R2 : δ → γ → Prop} (h1 : Trk g p R) (h2 : ∀ x y, R x y → Trk (g2 y) (p2 x) R2) (h3 : ∀ y, (g2 y ([], true)).2 = ([], true)) : Trk (fun s => g2 (g s).1 (g s).2) (rBind p p2) R2 where
  yes := fun l x r h => by
    obtain ⟨y, r1, e1, e2⟩ := rBind_of h
    obtain ⟨a1, a2⟩ := h1.yes _ _ _ e1
    rw [a2]
    exact (h2 _ _ a1).yes _ _ _ e2
  no := fun l h => by
    unfold rBind at h
    cases e1 : p l with
    | none => rw [h1.no _ e1]; exact h3 _
    | some y =>
      rw [e1] at h
      obtain ⟨a1, a2⟩ := h1.yes _ _ _ e1
      rw [a2]
      exact (h2 _ _ a1).no _ h
  short := by
    rw [h1.short]
    exact h3 _
theorem Trk.map {f : α → γ} {k : β → δ} {R2 : δ → γ → Prop} (h1 : Trk g p R) (h2 : ∀ x y, R x y → R2 (k x) (f y)) : Trk (fun s => (f (g s).1, (g s).2)) (rBind p fun x => rPure (k x)) R2 :=
  Trk.bind (g2 := fun y s => (f y, s)) h1 (fun x y h => ⟨fun l z r e => by injection e with e; injection e with e1 e2; subst e1 e2; exact ⟨h2 _ _ h, rfl⟩, fun l e => (by cases e), rfl⟩) fun _ => rfl
theorem gMany_short (g : Sta → α × Sta) (n : Nat) (l : List Int) : gMany g n (l, true) = ([], (l, true)) := by cases n <;> rfl
theorem trkMany {g : Sta → α × Sta} {p : Rd α} (h1 : Trk g p (fun x y => y = x)) : ∀ n, Trk (gMany g n) (rMany p n) (fun x y => y = x)
  | 0 => ⟨fun l x r h => by injection h with h; injection h with h1 h2; subst h1 h2; exact ⟨rfl, rfl⟩, fun l h => (by cases h), rfl⟩
  | n + 1 => by
    have h2 := trkMany h1 n
    refine ⟨fun l x r h => ?_, fun l h => ?_, rfl⟩
    · rw [rMany] at h
      rw [gMany, if_neg (by simp)]
      cases e1 : p l with
      | none => rw [e1] at h; cases h
      | some y =>
        obtain ⟨y, r1⟩ := y
        rw [e1] at h
        simp only at h
        cases e2 : rMany p n r1 with
        | none => rw [e2] at h; cases h
        | some z =>
          obtain ⟨zs, r2⟩ := z
          rw [e2] at h
          injection h with h
          injection h with h3 h4
          subst h3 h4
          have a1 := h1.yes _ _ _ e1
          have a2 := h2.yes _ _ _ e2
          simp only
          rw [a1.2, a1.1, a2.1]
          exact ⟨rfl, a2.2⟩
    · rw [rMany] at h
      rw [gMany, if_neg (by simp)]
      simp only
      cases e1 : p l with
      | none => rw [h1.no _ e1, gMany_short]
      | some y =>
        obtain ⟨y, r1⟩ := y
        rw [e1] at h
        simp only at h
        rw [(h1.yes _ _ _ e1).2]
        cases e2 : rMany p n r1 with
        | none => exact h2.no _ e2
        | some z => rw [e2] at h; cases h
end
theorem posA : ∀ s ∈ actS, 0 < s := by decide
theorem posR : ∀ s ∈ ruleS, 0 < s := by decide
theorem posM : ∀ s ∈ modS, 0 < s := by decide
theorem posH : ∀ s ∈ headS, 0 < s := by decide
theorem trkAct : Trk gAct rAct (fun x y => y = x) := Trk.map (trkNs posA) fun x y h => by rw [h]
theorem trkActs : Trk gActs rActs (fun x y => y = x) := show Trk (fun s => gMany gAct (gN 1 s).1.toNat (gN 1 s).2) (rBind (rNum 1) fun n => rMany rAct n.toNat) _ from Trk.bind (g := gN 1) (p := rNum 1) (p2 := fun n => rMany rAct n.toNat) (g2 := fun y => gMany gAct y.toNat) (trkN (by decide)) (fun x y h => by rw [h]; exact trkMany trkAct _) fun y => by rw [gMany_short]
theorem trkRule : Trk gRule rRule (fun x y => y = x) :=
  Trk.bind (g2 := fun ns s => (mkR ns (gActs s).1, (gActs s).2)) (trkNs posR) (fun x y h => by rw [h]; exact Trk.map trkActs fun x y h => by rw [h]) fun y => trkActs.short
theorem trkRules : Trk gRules rRules (fun x y => y = x) := show Trk (fun s => gMany gRule (gN 2 s).1.toNat (gN 2 s).2) (rBind (rNum 2) fun n => rMany rRule n.toNat) _ from Trk.bind (g := gN 2) (p := rNum 2) (p2 := fun n => rMany rRule n.toNat) (g2 := fun y => gMany gRule y.toNat) (trkN (by decide)) (fun x y h => by rw [h]; exact trkMany trkRule _) fun y => by rw [gMany_short]
/-- the same, as far as Check is one of 0 and 1 -/
def Like (x : Mu × Bool) (y : Mu × Bool) : Prop := y.2 = x.2 ∧ (x.2 = false → y.1 = x.1)
theorem trkMod {f : Int → Bool} (hf : ∀ n : Int, n ≤ 1 → f n = (n == 1)) : Trk (gMod f) rMod Like :=
  Trk.bind (g2 := fun ns s => ((mkMf f ns (gActs s).1, decide (1 < nthI ns 29)), (gActs s).2)) (trkNs posM) (fun x y h => by
    rw [h]
    exact Trk.map (f := fun ac => (mkMf f x ac, decide (1 < nthI x 29))) (k := fun ac => (mkM x ac, decide (1 < nthI x 29))) trkActs fun a b h => by
      rw [h]
      refine ⟨rfl, fun ho => ?_⟩
      have ho' : ¬ 1 < nthI x 29 := of_decide_eq_false ho
      unfold mkMf mkM
      simp only
      rw [hf _ (by omega)]) fun y => trkActs.short
def LikeM (x : Ms × Bool) (y : Ms × Bool) : Prop := y.2 = x.2 ∧ (x.2 = false → y.1 = x.1)
theorem likeM_refl (x : Ms × Bool) : LikeM x x := ⟨rfl, fun _ => rfl⟩
theorem trkBody {f : Int → Bool} (hf : ∀ n : Int, n ≤ 1 → f n = (n == 1)) (k t : Int) : Trk (gBody f k t) (rBody k t) LikeM := by
  unfold gBody rBody
  by_cases h1 : k = 1
  · simp only [if_pos h1]
    exact Trk.map (f := fun y : Mu × Bool => ((⟨k, t, 0, y.1, 0, zHd, []⟩, y.2) : Ms × Bool)) (k := fun y : Mu × Bool => ((⟨k, t, 0, y.1, 0, zHd, []⟩, y.2) : Ms × Bool)) (trkMod hf) fun a b h => ⟨h.1, fun ho => by
      have e := h.2 ho
      simp only
      rw [e]⟩
  simp only [if_neg h1]
  by_cases h6 : k = 6
  · simp only [if_pos h6]
    exact Trk.map (f := fun y : Int => ((⟨k, t, y, zMu, 0, zHd, []⟩, false) : Ms × Bool)) (k := fun y : Int => ((⟨k, t, y, zMu, 0, zHd, []⟩, false) : Ms × Bool)) (trkN (by decide)) fun a b h => by rw [h]; exact likeM_refl _
  simp only [if_neg h6]
  by_cases h8 : k = 8
  · simp only [if_pos h8]
    exact Trk.map (f := fun y : List Int => ((⟨k, t, 0, zMu, nthI y 0, headOf y 1, []⟩, false) : Ms × Bool)) (k := fun y : List Int => ((⟨k, t, 0, zMu, nthI y 0, headOf y 1, []⟩, false) : Ms × Bool)) (trkNs posH) fun a b h => by rw [h]; exact likeM_refl _
  simp only [if_neg h8]
  by_cases h9 : k = 9 ∨ k = 10
  · simp only [if_pos h9]
    exact Trk.map (f := fun y : List Ru => ((⟨k, t, 0, zMu, 0, zHd, y⟩, false) : Ms × Bool)) (k := fun y : List Ru => ((⟨k, t, 0, zMu, 0, zHd, y⟩, false) : Ms × Bool)) trkRules fun a b h => by rw [h]; exact likeM_refl _
  simp only [if_neg h9]
  exact ⟨fun l x r h => by injection h with h; injection h with h1 h2; subst h1 h2; exact ⟨likeM_refl _, rfl⟩, fun l h => (by cases h), rfl⟩
theorem gBody_short {f : Int → Bool} (hf : ∀ n : Int, n ≤ 1 → f n = (n == 1)) (k t : Int) : (gBody f k t ([], true)).2 = ([], true) := (trkBody hf k t).short
theorem trkMs {f : Int → Bool} (hf : ∀ n : Int, n ≤ 1 → f n = (n == 1)) : Trk (gMs f) rMs LikeM :=
  Trk.bind (g2 := fun ns s => gBody f (nthI ns 0) (nthI ns 1) s) (trkNs (by decide)) (fun x y h => by rw [h]; exact trkBody hf _ _) fun y => gBody_short hf _ _
theorem chk_ref : ∀ n : Int, n ≤ 1 → (fun n : Int => n == 1) n = (n == 1) := fun _ _ => rfl
theorem chk_prog : ∀ n : Int, n ≤ 1 → (fun n : Int => decide (0 < n)) n = (n == 1) := fun n h => by
  by_cases e : n = 1
  · subst e; rfl
  · rw [show (n == 1) = false by simpa using e]
    exact decide_eq_false (by omega)
/-- what the reference's Decode answers -/
theorem dec_ref {b z : List Int} {m : Ms} {od sh : Bool} (hg : gMs (fun n => n == 1) (b, false) = ((m, od), (z, sh))) :
    (sh = true → decE b = 8 ∧ decV b = zMs) ∧ (sh = false → od = false ∧ z = [] ∧ sndMs m = true → decE b = 0 ∧ decV b = m) ∧ (sh = false → ¬ (od = false ∧ z = [] ∧ sndMs m = true) → decE b = 2 ∧ decV b = zMs) := by
  have h := trkMs chk_ref
  unfold decE decV
  cases hr : rMs b with
  | none =>
    have e := h.no _ hr
    rw [hg] at e
    have e1 : z = [] ∧ sh = true := by injection e with e1 e2; exact ⟨e1, e2⟩
    obtain ⟨rfl, rfl⟩ := e1
    exact ⟨fun _ => ⟨rfl, rfl⟩, fun e => (by cases e), fun e => (by cases e)⟩
  | some y =>
    obtain ⟨⟨m', od'⟩, r⟩ := y
    obtain ⟨e1, e2⟩ := h.yes _ _ _ hr
    rw [hg] at e1 e2
    have e5 : z = r ∧ sh = false := by injection e2 with e3 e4; exact ⟨e3, e4⟩
    obtain ⟨rfl, rfl⟩ := e5
    obtain ⟨e3, e4⟩ := e1
    have e3' : od = od' := e3
    subst e3'
    refine ⟨fun e => (by cases e), fun _ hq => ?_, fun _ hq => ?_⟩
    · have e6 : m = m' := e4 hq.1
      subst e6
      simp only
      rw [if_pos hq, if_pos hq]
      exact ⟨rfl, rfl⟩
    · have hq' : ¬ (od = false ∧ z = [] ∧ sndMs m' = true) := fun q => hq ⟨q.1, q.2.1, by rw [show m = m' from e4 q.1]; exact q.2.2⟩
      simp only
      rw [if_neg hq', if_neg hq']
      exact ⟨rfl, rfl⟩
/-- what the program's Decode answers: it encodes what it reads and looks whether that is what came in -/
theorem dec_prog {b z : List Int} {m : Ms} {od sh : Bool} (hb : ByL b) (hg : gMs (fun n => decide (0 < n)) (b, false) = ((m, od), (z, sh))) (hw : WfMs m) (hc : CanMs m) :
    (sh = true → decE b = 8 ∧ decV b = zMs) ∧ (sh = false → sndMs m = true ∧ encMs m = b → decE b = 0 ∧ decV b = m) ∧ (sh = false → ¬ (sndMs m = true ∧ encMs m = b) → decE b = 2 ∧ decV b = zMs) := by
  have h := trkMs chk_prog
  cases hr : rMs b with
  | none =>
    have e := h.no _ hr
    rw [hg] at e
    have e1 : z = [] ∧ sh = true := by injection e with e1 e2; exact ⟨e1, e2⟩
    obtain ⟨rfl, rfl⟩ := e1
    refine ⟨fun _ => ?_, fun e => (by cases e), fun e => (by cases e)⟩
    unfold decE decV
    rw [hr]
    exact ⟨rfl, rfl⟩
  | some y =>
    obtain ⟨⟨m', od'⟩, r⟩ := y
    obtain ⟨e1, e2⟩ := h.yes _ _ _ hr
    rw [hg] at e1 e2
    have e5 : z = r ∧ sh = false := by injection e2 with e3 e4; exact ⟨e3, e4⟩
    obtain ⟨rfl, rfl⟩ := e5
    obtain ⟨e3, e4⟩ := e1
    refine ⟨fun e => (by cases e), fun _ hq => ?_, fun _ hq => ?_⟩
    · have hd := dec_enc hq.1 hw hc
      rw [hq.2] at hd
      exact hd
    · have e0 : decE b ≠ 0 := fun e0 => by
        obtain ⟨⟨hs, _, _⟩, he⟩ := enc_dec hb e0
        have hv : decV b = m := by
          have e0' := e0
          unfold decE at e0'
          unfold decV
          rw [hr] at e0' ⊢
          simp only at e0' ⊢
          by_cases hp : od' = false ∧ z = [] ∧ sndMs m' = true
          · rw [if_pos hp]; exact (e4 hp.1).symm
          · rw [if_neg hp] at e0'; cases e0'
        rw [hv] at hs he
        exact hq ⟨hs, he⟩
      refine ⟨?_, dec_no e0⟩
      unfold decE at e0 ⊢
      rw [hr] at e0 ⊢
      simp only at e0 ⊢
      by_cases hp : od' = false ∧ z = [] ∧ sndMs m' = true
      · rw [if_pos hp] at e0
        exact absurd rfl e0
      · rw [if_neg hp]
section
variable {x : Sta} {s i : Nat} {ss : List Nat} {n : Int}
theorem gN_byte (hb : ByL x.1) : ByL (gN s x).2.1 := by
  unfold gN
  split
  · exact fun y hy => by cases hy
  · exact hb.drop s
theorem gN_rng (hb : ByL x.1) : 0 ≤ (gN s x).1 ∧ (gN s x).1 < powB s := by
  unfold gN
  split
  · exact ⟨Int.le_refl _, powB_pos s⟩
  · rename_i h
    exact (num_val s (x.1.take s) (by rw [List.length_take]; omega) (hb.take s)).2
theorem gNs_byte : ∀ (ss : List Nat) {x : Sta}, ByL x.1 → ByL (gNs ss x).2.1
  | [], _, h => h
  | _ :: ss, _, h => gNs_byte ss (gN_byte h)
theorem gNs_len : ∀ (ss : List Nat) (x : Sta), (gNs ss x).1.length = ss.length
  | [], _ => rfl
  | s :: ss, x => by rw [gNs, List.length_cons, gNs_len ss, List.length_cons]
theorem gNs_rng : ∀ (ss : List Nat) {x : Sta}, ByL x.1 → ∀ (i : Nat) s, ss[i]? = some s → 0 ≤ nthI (gNs ss x).1 i ∧ nthI (gNs ss x).1 i < powB s
  | [], _, _, i, s, h => by simp at h
  | s0 :: ss, x, hb, 0, _, h => by
    simp only [List.getElem?_cons_zero, Option.some.injEq] at h
    subst h
    exact gN_rng hb
  | s0 :: ss, x, hb, i + 1, s, h => gNs_rng ss (gN_byte hb) i s (by simpa using h)
theorem gNs_rng8 (ss : List Nat) (h8 : ∀ s ∈ ss, s ≤ 8) (hb : ByL x.1) (i : Nat) : 0 ≤ nthI (gNs ss x).1 i ∧ nthI (gNs ss x).1 i < 18446744073709551616 := by
  cases hs : ss[i]? with
  | some s =>
    have h := gNs_rng ss hb i s hs
    have h9 := h8 s (List.mem_of_getElem? hs)
    have hp : powB s ≤ powB 8 := by
      have : ∀ a b : Nat, a ≤ b → powB a ≤ powB b := fun a b hab => by
        induction hab with
        | refl => exact Int.le_refl _
        | step _ ih => have := powB_pos a; show powB a ≤ powB _ * 256; omega
      exact this _ _ h9
    rw [powB_8] at hp
    omega
  | none =>
    have e : nthI (gNs ss x).1 i = 0 := by
      unfold nthI
      rw [List.getD_eq_getElem?_getD, List.getElem?_eq_none (by rw [gNs_len]; exact List.getElem?_eq_none_iff.1 hs)]
      rfl
    rw [e]
    decide
theorem gMany_all {α : Type} {g : Sta → α × Sta} {G : α → Prop} (hg : ∀ x : Sta, ByL x.1 → G (g x).1 ∧ ByL (g x).2.1) : ∀ (n : Nat) {x : Sta}, ByL x.1 → (∀ a ∈ (gMany g n x).1, G a) ∧ ByL (gMany g n x).2.1 ∧ (gMany g n x).1.length ≤ n
  | 0, x, h => ⟨fun a ha => (by cases ha), h, Nat.le_refl _⟩
  | n + 1, x, h => by
    rw [gMany]
    split
    · exact ⟨fun a ha => (by cases ha), h, Nat.zero_le _⟩
    · obtain ⟨h1, h2⟩ := hg x h
      obtain ⟨h3, h4, h5⟩ := gMany_all hg n h2
      refine ⟨fun a ha => ?_, h4, by simp only [List.length_cons]; omega⟩
      rcases List.mem_cons.1 ha with rfl | ha
      · exact h1
      · exact h3 a ha
theorem le8A : ∀ s ∈ actS, s ≤ 8 := by decide
theorem le8R : ∀ s ∈ ruleS, s ≤ 8 := by decide
theorem le8M : ∀ s ∈ modS, s ≤ 8 := by decide
theorem le8H : ∀ s ∈ headS, s ≤ 8 := by decide
theorem gAct_ok (hb : ByL x.1) : WfA (gAct x).1 ∧ ByL (gAct x).2.1 := ⟨gNs_rng8 actS le8A hb 3, gNs_byte _ hb⟩
theorem gActs_ok (hb : ByL x.1) : (WfAL (gActs x).1 ∧ (gActs x).1.length ≤ 255) ∧ ByL (gActs x).2.1 := by
  obtain ⟨h1, h2, h3⟩ := gMany_all (g := gAct) (G := WfA) (fun x h => gAct_ok h) (gN 1 x).1.toNat (gN_byte hb)
  have h4 := (gN_rng (s := 1) hb).2
  rw [powB_1] at h4
  refine ⟨⟨h1, ?_⟩, h2⟩
  unfold gActs
  omega
theorem i64_small {n : Int} (h0 : 0 ≤ n) (h1 : n < 4294967296) : I64 n := ⟨by omega, by omega⟩
theorem cubeOf_wf {ns : List Int} {o : Nat} (h : ∀ i, 0 ≤ nthI ns i ∧ nthI ns i < 18446744073709551616) : Wf (cubeOf ns o) := fun j => by
  unfold cubeOf
  split
  · exact h _
  · exact (⟨by decide, by decide⟩ : (0 : Int) ≤ 0 ∧ (0 : Int) < 18446744073709551616)
theorem headOf_wf {ns : List Int} {o : Nat} (h : ∀ i, 0 ≤ nthI ns i ∧ nthI ns i < 18446744073709551616) : Wf (headOf ns o) := fun j => by
  unfold headOf
  split
  · exact h _
  · exact (⟨by decide, by decide⟩ : (0 : Int) ≤ 0 ∧ (0 : Int) < 18446744073709551616)
theorem cubeOf_ge {ns : List Int} {o : Nat} : ∀ j, 24 ≤ j → cubeOf ns o j = 0 := fun j hj => by unfold cubeOf; rw [if_neg (by omega)]
theorem headOf_ge {ns : List Int} {o : Nat} : ∀ j, 12 ≤ j → headOf ns o j = 0 := fun j hj => by unfold headOf; rw [if_neg (by omega)]
theorem rngLo {ss : List Nat} (hb : ByL x.1) {i q : Nat} (h : ss[i]? = some q) (hp : powB q ≤ 4294967296) : I64 (nthI (gNs ss x).1 i) := by
  have := gNs_rng ss hb i q h
  exact i64_small this.1 (by omega)
theorem rS24 : ruleS[24]? = some 2 := by decide
theorem rS25 : ruleS[25]? = some 4 := by decide
theorem rS26 : ruleS[26]? = some 4 := by decide
theorem rS27 : ruleS[27]? = some 1 := by decide
theorem mS0 : modS[0]? = some 1 := by decide
theorem mS25 : modS[25]? = some 2 := by decide
theorem mS26 : modS[26]? = some 4 := by decide
theorem mS27 : modS[27]? = some 4 := by decide
theorem mS28 : modS[28]? = some 1 := by decide
theorem mkR_wf {ns : List Int} {ac : List Ac} (h8 : ∀ i, 0 ≤ nthI ns i ∧ nthI ns i < 18446744073709551616) (h1 : WfAL ac) (h2 : ac.length ≤ 255) (a24 : I64 (nthI ns 24)) (a25 : I64 (nthI ns 25)) (a26 : I64 (nthI ns 26)) (a27 : I64 (nthI ns 27)) : WfR (mkR ns ac) := by
  have hs := fun i => sgn_i64 (show 0 ≤ nthI ns i ∧ nthI ns i < powB 8 by rw [powB_8]; exact h8 i)
  exact ⟨cubeOf_wf h8, h1, by show ac.length * 32 ≤ _; omega, a24, a25, a26, a27, hs 28, hs 29, hs 30⟩
theorem mkMf_wf {f : Int → Bool} {ns : List Int} {ac : List Ac} (h8 : ∀ i, 0 ≤ nthI ns i ∧ nthI ns i < 18446744073709551616) (h1 : WfAL ac) (h2 : ac.length ≤ 255) (a0 : I64 (nthI ns 0)) (a25 : I64 (nthI ns 25)) (a26 : I64 (nthI ns 26)) (a27 : I64 (nthI ns 27)) (a28 : I64 (nthI ns 28)) : WfM (mkMf f ns ac) :=
  ⟨cubeOf_wf h8, h1, by show ac.length * 32 ≤ _; omega, a0, a25, a26, a27, a28⟩
theorem gRule_ok (hb : ByL x.1) : (WfR (gRule x).1 ∧ Can (gRule x).1 ∧ (gRule x).1.acts.length ≤ 255) ∧ ByL (gRule x).2.1 := by
  have hb2 := gNs_byte ruleS hb
  obtain ⟨⟨h1, h2⟩, h3⟩ := gActs_ok hb2
  have h8 := gNs_rng8 ruleS le8R hb
  have a24 := rngLo hb rS24 (by decide)
  have a25 := rngLo hb rS25 (by decide)
  have a26 := rngLo hb rS26 (by decide)
  have a27 := rngLo hb rS27 (by decide)
  unfold gRule
  generalize gNs ruleS x = y at *
  obtain ⟨ns, z⟩ := y
  simp only at *
  generalize gActs z = q at *
  obtain ⟨ac, z2⟩ := q
  exact ⟨⟨mkR_wf h8 h1 h2 a24 a25 a26 a27, fun j hj => cubeOf_ge (ns := ns) (o := 0) j hj, h2⟩, h3⟩
theorem gRules_ok (hb : ByL x.1) : (∀ u ∈ (gRules x).1, WfR u ∧ Can u ∧ u.acts.length ≤ 255) ∧ (gRules x).1.length ≤ 65535 ∧ ByL (gRules x).2.1 := by
  obtain ⟨h1, h2, h3⟩ := gMany_all (g := gRule) (G := fun u => WfR u ∧ Can u ∧ u.acts.length ≤ 255) (fun x h => gRule_ok h) (gN 2 x).1.toNat (gN_byte hb)
  have h4 := (gN_rng (s := 2) hb).2
  rw [powB_2] at h4
  refine ⟨h1, ?_, h2⟩
  unfold gRules
  omega
theorem gMod_ok (f : Int → Bool) (hb : ByL x.1) : (WfM (gMod f x).1.1 ∧ (∀ j, 24 ≤ j → (gMod f x).1.1.m j = 0) ∧ (gMod f x).1.1.acts.length ≤ 255) ∧ ByL (gMod f x).2.1 := by
  have hb2 := gNs_byte modS hb
  obtain ⟨⟨h1, h2⟩, h3⟩ := gActs_ok hb2
  have h8 := gNs_rng8 modS le8M hb
  have a0 := rngLo hb mS0 (by decide)
  have a25 := rngLo hb mS25 (by decide)
  have a26 := rngLo hb mS26 (by decide)
  have a27 := rngLo hb mS27 (by decide)
  have a28 := rngLo hb mS28 (by decide)
  unfold gMod
  generalize gNs modS x = y at *
  obtain ⟨ns, z⟩ := y
  simp only at *
  generalize gActs z = q at *
  obtain ⟨ac, z2⟩ := q
  exact ⟨⟨mkMf_wf h8 h1 h2 a0 a25 a26 a27 a28, fun j hj => cubeOf_ge (ns := ns) (o := 1) j hj, h2⟩, h3⟩
/-- what is read has numbers as they come in -/
theorem gMs_ok (f : Int → Bool) (hb : ByL x.1) : WfMs (gMs f x).1.1 ∧ CanMs (gMs f x).1.1 := by
  have hb2 := gNs_byte [1, 4] hb
  unfold gMs
  generalize (gNs [1, 4] x).2 = z at *
  generalize nthI (gNs [1, 4] x).1 0 = k
  generalize nthI (gNs [1, 4] x).1 1 = t
  unfold gBody
  split
  · obtain ⟨⟨h1, h2, _⟩, _⟩ := gMod_ok f hb2
    exact ⟨⟨h1, zHd_wf, wfU_nil⟩, h2, fun _ _ => rfl, canL_nil⟩
  · split
    · exact ⟨wf_plain wfU_nil, can_plain canL_nil⟩
    · split
      · exact ⟨⟨zMu_wf, headOf_wf (gNs_rng8 headS le8H hb2), wfU_nil⟩, fun _ _ => rfl, headOf_ge, canL_nil⟩
      · split
        · obtain ⟨h1, _, _⟩ := gRules_ok hb2
          exact ⟨wf_plain fun u hu => (h1 u hu).1, can_plain fun u hu => (h1 u hu).2.1⟩
        · exact ⟨wf_plain wfU_nil, can_plain canL_nil⟩
end
end Go.Proofs.YtomnpfbebimpkaaGreatDoor
