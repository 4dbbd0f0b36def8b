/-
  Messages in memory: their cells; a box of a message, its parts.
-/
import Derived.Test.YtomnpfbebimpkaaGreatDoorPackCodM
import Derived.Test.YtomnpfbebimpkaaGreatDoorSq
import Derived.Test.YtomnpfbebimpkaaGreatDoorPackMod
import Derived.Test.YtomnpfbebimpkaaGreatDoorModSam
namespace Go.Proofs.YtomnpfbebimpkaaGreatDoor
set_option maxRecDepth 20000
abbrev Sta := List Int × Bool
structure Trk {α β : Type} (g : Sta → α × Sta) (p : Rd β) (R : β → α → Prop) : Prop where
  yes : ∀ l x r, p l = some (x, r) → R x (g (l, false)).1 ∧ (g (l, false)).2 = (r, false)
  no : ∀ l, p l = none → (g (l, false)).2 = ([], true)
  short : (g ([], true)).2 = ([], true)
section
variable {α β γ δ : Type} {g : Sta → α × Sta} {p : Rd β} {R : β → α → Prop}
theorem Trk.bind {g2:α→Sta→γ×Sta} {p2:β→Rd δ} {R2:δ→γ→Prop} (h1:Trk g p R) (h2:∀x y,R x y→Trk (g2 y) (p2 x) R2) (h3:∀y,(g2 y ([],true)).2=([],true)):Trk (fun s=>g2 (g s).1 (g s).2) (rBind p p2) R2 where
 yes:=fun l x r h=>by obtain⟨y,r1,e1,e2⟩:=rBind_of h;obtain⟨a1,a2⟩:=h1.yes _ _ _ e1;rw[a2];exact(h2 _ _ a1).yes _ _ _ e2
 no:=fun l h=>by
  unfold rBind at h;cases e1:p l with
  |none=>rw[h1.no _ e1];exact h3 _
  |some y=>rw[e1] at h;obtain⟨a1,a2⟩:=h1.yes _ _ _ e1;rw[a2];exact(h2 _ _ a1).no _ h
 short:=by rw[h1.short];exact h3 _
end
section
variable {x : Sta} {s i : Nat} {ss : List Nat} {n : Int}
end
end Go.Proofs.YtomnpfbebimpkaaGreatDoor

namespace Go.Proofs.YtomnpfbebimpkaaGreatDoor
set_option maxRecDepth 20000
open Go.RowKit
structure Gm where
  kind : Int
  txn : Int
  e : Int
  mod : Mm
  port : Int
  head : Nat → Int
  q : Option Addr
  n : Nat
  c : Nat
  rs : List Rm
def Gm.u (g : Gm) : Ms := ⟨g.kind, g.txn, g.e, g.mod.u, g.port, g.head, g.rs.map (·.u)⟩
def ghd (g : Gm) : List Value := [.int .i64 g.kind, .int .i64 g.txn, .int .i64 g.e]
def gtl (g : Gm) : List Value := .int .i64 g.port :: (hl g.head ++ [.slice g.q g.n g.c])
def gcl (g : Gm) : List Value := ghd g ++ (mcl g.mod ++ gtl g)
def gca (g : Gm) : Array Value := (gcl g).toArray
abbrev KG : Kd Gm := ⟨42, 54, 48, 416, gcl⟩
theorem mcl_len (m:Mm):(mcl m).length=31:=by simp[mcl,mtl,cl]
theorem okG:KG.Ok where
 pos:=by decide
 len:=fun _=>rfl
 one:=fun a u hu=>by
  rcases List.mem_append.1 (show u∈ghd a++(mcl a.mod++gtl a) from hu) with h|h
  ·simp only[ghd,List.mem_cons,List.not_mem_nil,or_false] at h;rcases h with rfl|rfl|rfl<;>rfl
  rcases List.mem_append.1 h with h|h
  ·have h1:=mca_one a.mod;rw[Array.all_eq_true'] at h1;exact h1 u (by simpa [mca] using h)
  ·simp only[gtl,hl,List.cons_append,List.nil_append,List.mem_cons,List.not_mem_nil,or_false] at h;rcases h with rfl|rfl|rfl|rfl|rfl|rfl|rfl|rfl|rfl|rfl|rfl|rfl|rfl|rfl<;>rfl
 under:=Tryz.underlying54
 info:=infoOf (by kernel_rfl) (by kernel_rfl) (by kernel_rfl)
 small:=by decide
 room1:=by decide
theorem gca_one (g:Gm):(gca g).all (·.oneCell')=true:=by
 rw[Array.all_eq_true'];intro x hx;exact okG.one g x (by simpa [gca] using hx)
theorem infoG:(Tryz.prog.info? 42).map (·.size)=some 48:=by kernel_rfl
def InG (g : Gm) (W : World) : Prop := InM g.mod W ∧ RLies (.slice g.q g.n g.c) g.rs W
section
variable {W W' : World} {g : Gm} {b : Nat} {t : TypeId}
theorem InG.below (h:InG g W) (hb:Below W.heap.size W W'):InG g W':=⟨h.1.below hb,h.2.below hb⟩
theorem InG.len (h:InG g W):g.n=g.rs.length:=by
 obtain⟨p,c,e⟩:=KLies.form h.2.1;injection e
theorem gcl_mod (g:Gm) {j:Nat} {x:Value} (h:(mcl g.mod)[j]? =some x):(gcl g)[3+j]? =some x:=by
 unfold gcl;rw[List.getElem?_append_right (by show 3≤3+j;omega)];show(mcl g.mod++gtl g)[3+j - 3]? =some x;rw[show 3+j - 3=j by omega,List.getElem?_append_left (List.getElem?_eq_some_iff.1 h).1];exact h
theorem gcl_tl (g:Gm) (j:Nat):(gcl g)[34+j]? =(gtl g)[j]?:=by
 unfold gcl;rw[List.getElem?_append_right (by show 3≤34+j;omega)];show(mcl g.mod++gtl g)[34+j - 3]? =_;rw[List.getElem?_append_right (by rw[mcl_len];omega),mcl_len,show 34+j - 3 - 31=j by omega]
theorem Blk.rangeG (h:Blk b (gca g) t W):W.rangeAt b 0 (gcl g):=fun j x hx=>by
 rw[Nat.zero_add,cell_of_row W b j _ _ _ h];unfold gca;simpa using hx
structure CellsG (W : World) (b : Nat) (g : Gm) : Prop where
  kind : W.cell? ⟨b, 0, none⟩ = some (.int .i64 g.kind)
  txn : W.cell? ⟨b, 1, none⟩ = some (.int .i64 g.txn)
  e : W.cell? ⟨b, 2, none⟩ = some (.int .i64 g.e)
  mod : W.rangeAt b 3 (mcl g.mod)
  port : W.cell? ⟨b, 34, none⟩ = some (.int .i64 g.port)
  head : W.rangeAt b 35 (hl g.head)
  rules : W.cell? ⟨b, 47, none⟩ = some (.slice g.q g.n g.c)
theorem Blk.cellsG (h:Blk b (gca g) t W):CellsG W b g:=by
 have r:=h.rangeG;have e:∀k,0+k=k:=fun k=>Nat.zero_add k;exact⟨e 0 ▸ r 0 _ rfl,e 1 ▸ r 1 _ rfl,e 2 ▸ r 2 _ rfl,fun j x hx=>by have:=r (3+j) x (gcl_mod g hx);rwa [Nat.zero_add] at this,e 34 ▸ r 34 _ (gcl_tl g 0),fun j x hx=>by have:=r (34+(1+j)) x (by rw[gcl_tl];unfold gtl;rw[Nat.add_comm 1 j,List.getElem?_cons_succ,List.getElem?_append_left (List.getElem?_eq_some_iff.1 hx).1];exact hx);rwa [Nat.zero_add,show 34+(1+j)=35+j by omega] at this,e 47 ▸ r 47 _ (gcl_tl g 13)⟩
end
def zMm : Mm := ⟨zMu, none, 0, 0⟩
theorem zMm_in (W:World):InM zMm W:= .inl ⟨rfl,rfl⟩
theorem rlies_none (W:World):RLies (.slice none 0 0) [] W:=⟨.inl ⟨rfl,rfl⟩,fun y hy=>(by cases hy)⟩
end Go.Proofs.YtomnpfbebimpkaaGreatDoor
