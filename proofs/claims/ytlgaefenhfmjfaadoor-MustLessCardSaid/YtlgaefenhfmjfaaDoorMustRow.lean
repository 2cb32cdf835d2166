/- Sections that a call builds. -/
import Derived.Test.YtlgaefenhfmjfaaDoorPk10
import Derived.Test.YtlgaefenhfmjfaaDoorPk2
import Derived.Test.YtlgaefenhfmjfaaDoorPk14
import Derived.Test.YtlgaefenhfmjfaaDoorPk3
namespace Go.Proofs.YtlgaefenhfmjfaaDoor
open Go.RowKit
theorem sec_info : (Tryd.prog.info? 54).map (fun i => (i.zero,i.size,i.bytes)) = some (some (.agg #[.int .u32 0,.int .u32 0,.slice none 0 0,.int .u32 0,.int .u32 0,.slice none 0 0]),6,64):=by kernel_rfl
theorem scV_one : ∀ (x : Sc) j,(scV x j).oneCell' = true:=by
  intro x j
  match j with
  | 0 => rfl
  | 1 => rfl
  | 2 => rfl
  | 3 => rfl
  | 4 => rfl
  | _ + 5 => rfl
structure WsOwn (w : World) (B : Nat) (x : Ws) : Prop where
  own : Own w B 51 x.v (x.z.map wordV)
  u32 : ∀ y ∈ x.z,y < 4294967296
  len : x.z.length = x.len
theorem WsOwn.below {w w' : World} {B C : Nat} {x : Ws} (h : WsOwn w B x) (hb : Below C w w') (hC : w.heap.size ≤ C) : WsOwn w' B x:=⟨h.own.below hb hC,h.u32,h.len⟩
theorem WsOwn.less {w : World} {B B' : Nat} {x : Ws} (h : WsOwn w B x) (hB : B' ≤ B) : WsOwn w B' x:=⟨h.own.less hB,h.u32,h.len⟩
theorem WsOwn.ok {w : World} {B : Nat} {x : Ws} (h : WsOwn w B x) : x.Ok w w.heap.size:=by
  obtain ⟨A,cap,e,hc,hm,hr⟩:=h.own.readsN h.len
  unfold Ws.v at e
  injection e with e1 e2 e3
  subst e1;subst e3
  exact ⟨hr,h.u32,hc,hm⟩
theorem XR {w : World} {B B' : Nat} {e e' : TypeId} {v v' : Value} {xs : List Value} {ls : List Sc} (h : Own w B e v xs) (h' : OwnR 6 scV w B' e' v' ls) (hne : e ≠ e') : v.ownBlock = none ∨ v.ownBlock ≠ v'.ownBlock:=by
  rcases h.2 with ⟨rfl,_⟩ | ⟨g,cap,cur,rfl,_,hg,_⟩
  · exact .inl rfl
  · rcases h'.2 with ⟨rfl,_⟩ | ⟨g2,cap2,cur2,rfl,_,hg2,_⟩
    · exact .inr (by simp [Value.ownBlock])
    · refine .inr fun e1 => ?_
      have e2 : g = g2:=by simpa [Value.ownBlock] using e1
      subst e2
      rw [hg] at hg2
      injection hg2 with hg2
      injection hg2 with _ hg2 _
      exact hne hg2
structure SecOwn (w : World) (B : Nat) (x : Sc) : Prop where
  en : x.en < 4294967296
  ex : x.ex < 4294967296
  held : WsOwn w B x.held
  le : x.le < 4294967296
  lx : x.lx < 4294967296
  live : WsOwn w B x.live
theorem SecOwn.below {w w' : World} {B C : Nat} {x : Sc} (h : SecOwn w B x) (hb : Below C w w') (hC : w.heap.size ≤ C) : SecOwn w' B x:=⟨h.en,h.ex,h.held.below hb hC,h.le,h.lx,h.live.below hb hC⟩
theorem SecOwn.ok {w : World} {B : Nat} {x : Sc} (h : SecOwn w B x) : x.Ok w w.heap.size:=⟨h.en,h.ex,h.held.ok,h.le,h.lx,h.live.ok⟩
structure SecRow (w : World) (B : Nat) (v : Value) (ls : List Sc) : Prop where
  row : OwnR 6 scV w B 54 v ls
  each : ∀ x ∈ ls,SecOwn w B x
theorem SecRow.nil (w : World) (B : Nat) : SecRow w B (.slice none 0 0) []:=⟨OwnR.nil _ _ _ _ _,fun x hx => by cases hx⟩
theorem SecRow.below {w w' : World} {B C : Nat} {v : Value} {ls : List Sc} (h : SecRow w B v ls) (hb : Below C w w') (hC : w.heap.size ≤ C) : SecRow w' B v ls :=
  ⟨h.row.far (row:=none) ⟨hb.os,hb.tape,hb.output,hb.size,fun i hi _ => hb.block i (by omega)⟩ (by
    cases hv : v.ownBlock with
    | none => exact .inl rfl
    | some k => exact .inr (by simp)),fun x hx => (h.each x hx).below hb hC⟩
theorem SecRow.secs {w : World} {B : Nat} {v : Value} {ls : List Sc} (h : SecRow w B v ls) : ∃ A cap,v = .slice A ls.length cap ∧ ls.length ≤ cap ∧ cap ≤ maxLen ∧ Secs w w.heap.size A ls.length ls:=by
  obtain ⟨A,cap,e,hc,hm,hr⟩:=h.row.form
  exact ⟨A,cap,e,hc,hm,hr,fun x hx => (h.each x hx).ok⟩
theorem WsOwn.far {w w' : World} {B B' : Nat} {x : Ws} {v v' : Value} {ls : List Sc} (h : WsOwn w B x) (hr : OwnR 6 scV w B' 54 v ls) (hg : Grew w w' v v') : WsOwn w' B x:=⟨h.own.far hg.1 (XR h.own hr (by decide)),h.u32,h.len⟩
theorem SecOwn.far {w w' : World} {B B' : Nat} {x : Sc} {v v' : Value} {ls : List Sc} (h : SecOwn w B x) (hr : OwnR 6 scV w B' 54 v ls) (hg : Grew w w' v v') : SecOwn w' B x:=⟨h.en,h.ex,h.held.far hr hg,h.le,h.lx,h.live.far hr hg⟩
theorem SecRow.push {w w' : World} {B : Nat} {v v' : Value} {ls : List Sc} {x : Sc} (h : SecRow w B v ls) (hx : SecOwn w B x) (ho : OwnR 6 scV w' B 54 v' (ls ++ [x])) (hg : Grew w w' v v') : SecRow w' B v' (ls ++ [x]):=by
  refine ⟨ho,fun y hy => ?_⟩
  rcases List.mem_append.1 hy with hy | hy
  · exact (h.each y hy).far h.row hg
  · rw [List.mem_singleton.1 hy];exact hx.far h.row hg
theorem SecRow.grew {w0 w w' : World} {B C : Nat} {v v' : Value} {ls : List Sc} (h : SecRow w B v ls) (hb : Below C w0 w) (hC : C ≤ B) (hC2 : C ≤ w.heap.size) (hg : Grew w w' v v') : Below C w0 w' :=
  hb.grown hg.1 hC2 fun k hk => Nat.le_trans hC (h.row.block k hk).1
def SecZ (x : Sc) (n : Nat) : Prop:=x.en = 0 ∧ x.ex = 0 ∧ x.held.z = List.replicate n 0 ∧ x.held.len = n ∧ x.live.len = n
def Fact.zeros (B n : Nat) : Fact :=
  ⟨fun v W => ∃ x : Ws,v = x.v ∧ x.z = List.replicate n 0 ∧ x.len = n ∧ WsOwn W B x,fun _ _ _ hb ⟨x,h1,h2,h3,h4⟩ => ⟨x,h1,h2,h3,h4.below hb (Nat.le_refl _)⟩⟩
def Fact.zsec (B n : Nat) : Fact :=
  ⟨fun v W => ∃ x : Sc,v = scA x ∧ SecZ x n ∧ SecOwn W B x,fun _ _ _ hb ⟨x,h1,h2,h3⟩ => ⟨x,h1,h2,h3.below hb (Nat.le_refl _)⟩⟩
def Fact.zel (B n : Nat) : Fact :=
  ⟨fun v W => ∃ g x,v = .slice (some ⟨g,0,none⟩) 1 1 ∧ Blk W g 54 (scC x) ∧ SecZ x n ∧ SecOwn W B x,fun _ _ _ hb ⟨g,x,h1,h2,h3,h4⟩ => ⟨g,x,h1,h2.below hb h2.lt,h3,h4.below hb (Nat.le_refl _)⟩⟩
theorem JH {w : World} {B g n : Nat} (h : Blk w g 51 (List.replicate n (.int .u32 0))) (hB : B ≤ g) (hn : n ≤ maxLen) : WsOwn w B ⟨some ⟨g,0,none⟩,n,n,List.replicate n 0⟩:=by
  refine ⟨?_,fun y hy => by rw [List.eq_of_mem_replicate hy];omega,by simp⟩
  have h1 : (List.replicate n 0).map wordV = List.replicate n (.int .u32 0):=by rw [List.map_replicate];rfl
  have h2:=Blk.own (xs:=List.replicate n (.int .u32 0)) (cap:=n) h hB (by simp) (by simp) hn (by rw [List.length_replicate,List.take_of_length_le (by simp)])
  rw [List.length_replicate] at h2
  show Own w B _ _ ((List.replicate n 0).map wordV)
  rw [h1]
  exact h2
namespace Mu
theorem check_zero {p : Pg} {us : List Nat} {ls : List Sc} (hsh : shaped p ls = true) (hz : ∀ x ∈ ls,∃ n,SecZ x n) : check p us ls = (0,0,0):=by
  have hs : ∀ f,(ls.getD f default).en = 0 ∧ (ls.getD f default).ex = 0 ∧ ∀ k,(ls.getD f default).held.z.getD k 0 = 0:=fun f => by
    rw [List.getD_eq_getElem?_getD (l:=ls)]
    cases e : ls[f]? with
    | none => exact ⟨rfl,rfl,fun k => rfl⟩
    | some x =>
      obtain ⟨n,h1,h2,h3,_⟩:=hz x (List.mem_of_getElem? e)
      refine ⟨h1,h2,fun k => ?_⟩
      show x.held.z.getD k 0 = 0
      rw [h3,List.getD_eq_getElem?_getD,List.getElem?_replicate]
      split <;> rfl
  refine check_none hsh fun f _ => uS.2 ⟨fun _ => (hs f).1,?_,fun i _ => uN.2 ⟨fun _ => ?_,fun _ => ?_,fun to _ => ?_⟩⟩
  · show S.within ((ls.getD f default).held.z.getD 0 0) _ 32 = true
    rw [(hs f).2.2];exact qI _ _
  · rw [(hs _).1];exact qI _ _
  · show S.within (ls.getD f default).ex _ 32 = true
    rw [(hs f).2.1];exact qI _ _
  · show S.within ((ls.getD f default).held.z.getD to.toNat 0) _ 32 = true
    rw [(hs f).2.2];exact qI _ _
end Mu
end Go.Proofs.YtlgaefenhfmjfaaDoor
