/- MustLaw1, Owns, RowsApp, MustRow, MustRow2, MustRow3, MustR1, Make, Want, SetP3, SetLaw1, SetLaid. -/
import Derived.Test.YtlgaefenhfmjfaaDoorPu4
import Derived.Test.YtlgaefenhfmjfaaDoorMustP5
import Derived.Test.YtlgaefenhfmjfaaDoorPu1
import Derived.Great.BuildSlice
import Derived.Test.YtlgaefenhfmjfaaDoorPu2
import Derived.Test.YtlgaefenhfmjfaaDoorPu3
import Derived.Test.YtlgaefenhfmjfaaDoorPu8
import Derived.Test.YtlgaefenhfmjfaaDoorPu6
import Derived.Test.YtlgaefenhfmjfaaDoorPu5
import Derived.BigFrame
import Derived.Test.YtlgaefenhfmjfaaDoorPu7
import Derived.BigQuiet
import Derived.Deep.QuietTactic
import Derived.Test.YtlgaefenhfmjfaaDoorRows
import Derived.Deep.DeepHandedRow
import Derived.Lib.LaidTab
namespace Go.Proofs.YtlgaefenhfmjfaaDoor
open Go.RowKit
def pgS (g : Nat) : Pg:=⟨0,1,0,some ⟨g + 1,0,none⟩,1,1,[⟨some ⟨g,0,none⟩,1,1,[⟨9,0,0,0⟩]⟩]⟩
def scS (g : Nat) : Sc:=⟨0,0,⟨some ⟨g + 2,0,none⟩,1,1,[1]⟩,0,0,⟨some ⟨g + 3,0,none⟩,1,1,[0]⟩⟩
def pgSW (w : World) : World:=((((w.alloc (.cells #[.int .i64 9,.int .i64 0,.int .i64 0,.int .i64 0] 63)).alloc (.cells #[.slice (some ⟨w.heap.size,0,none⟩) 1 1] 60)).alloc (.cells #[.int .u32 1] 51)).alloc (.cells #[.int .u32 0] 51)).alloc
  (.cells #[.int .u32 0,.int .u32 0,.slice (some ⟨w.heap.size + 2,0,none⟩) 1 1,.int .u32 0,.int .u32 0,.slice (some ⟨w.heap.size + 3,0,none⟩) 1 1] 54)
theorem vY (w : World) {B : Nat} {w0 : World} (h : Below B w0 w) (hB : B ≤ w.heap.size) : Below B w0 (pgSW w):=((((h.alloc hB _).alloc (by simp;omega) _).alloc (by simp;omega) _).alloc (by simp;omega) _).alloc (by simp;omega) _
theorem uE {w : World} {g : Nat} {t : TypeId} {l : List Nat} (h : Blk w g t (l.map wordV)) (hl : ∀ x ∈ l,x < 4294967296) (n : Nat) (hn : l.length = n) (hm : n ≤ 1000) : (⟨some ⟨g,0,none⟩,n,n,l⟩ : Ws).Ok w w.heap.size :=
  ⟨Blk.row h hn (Nat.le_refl _),hl,Nat.le_refl _,by unfold maxLen;show n ≤ 2 ^ 63 - 1;omega⟩
theorem JG {w : World} {g B : Nat} {t : TypeId} {x : Sc} (h : Blk w g t (scC x)) (hx : x.Ok w B) (hB : w.heap.size ≤ B) : Secs w B (some ⟨g,0,none⟩) 1 [x]:=by
  refine ⟨⟨rfl,fun _ => ⟨_,rfl,Nat.lt_of_lt_of_le h.lt hB,fun k y hy j hj => ?_⟩⟩,fun y hy => by rw [List.mem_singleton.1 hy];exact hx⟩
  have hk : k = 0:=by have:=(List.getElem?_eq_some_iff.1 hy).1;simp at this;omega
  subst hk
  simp at hy
  subst hy
  have hadd : (⟨g,0,none⟩ : Addr).add (0 * 6 + j) = ⟨g,j,none⟩:=by rw [Nat.zero_mul,Nat.zero_add,l7]
  rw [hadd,h.cell]
  match j,hj with
  | 0,_ => rfl
  | 1,_ => rfl
  | 2,_ => rfl
  | 3,_ => rfl
  | 4,_ => rfl
  | 5,_ => rfl
theorem LW (w : World) : (pgS w.heap.size).Ok (pgSW w) (pgSW w).heap.size:=by
  have h0 : Blk (pgSW w) w.heap.size 63 (([⟨9,0,0,0⟩] : List Nd).flatMap ndC):=((((Blk.newA w 63 _ (([⟨9,0,0,0⟩] : List Nd).flatMap ndC) rfl).alloc _).alloc _).alloc _).alloc _
  have h2 : Blk (pgSW w) (w.heap.size + 1) 60 ((pgS w.heap.size).fns.map fnV):=(((Blk.newAt rfl (by simp)).alloc _).alloc _).alloc _
  refine ⟨by unfold I64;simp [pgS],by unfold I64;simp [pgS],by unfold I64;simp [pgS],?_,?_,Nat.le_refl _,by simp [pgS,maxLen],fun h => by cases h⟩
  · exact Blk.row (f:=fnV) (l:=(pgS w.heap.size).fns) h2 rfl (Nat.le_refl _)
  · intro f hf
    simp only [pgS,List.mem_cons,List.not_mem_nil,or_false] at hf
    subst hf
    exact LM h0 (by decide) 1 rfl (by omega)
theorem LU (w : World) : Secs (pgSW w) (pgSW w).heap.size (some ⟨w.heap.size + 4,0,none⟩) 1 [scS w.heap.size]:=by
  have h2 : Blk (pgSW w) (w.heap.size + 2) 51 ([1].map wordV):=((Blk.newAt rfl (by simp)).alloc _).alloc _
  have h3 : Blk (pgSW w) (w.heap.size + 3) 51 ([0].map wordV):=(Blk.newAt rfl (by simp)).alloc _
  have h4 : Blk (pgSW w) (w.heap.size + 4) 54 (scC (scS w.heap.size)):=Blk.newAt rfl (by simp)
  refine JG h4 ⟨by simp [scS],by simp [scS],?_,by simp [scS],by simp [scS],?_⟩ (Nat.le_refl _)
  · exact uE h2 (by simp) 1 rfl (by omega)
  · exact uE h3 (by simp) 1 rfl (by omega)
theorem uP (g : Nat) : Q.small (pgS g) = true:=by simp [Q.small,pgS]
theorem uQ (g : Nat) : Q.check (pgS g) = (0,0,0):=by
  refine L5 (by constructor <;> simp [pgS]) (fun fn hfn => ?_) (JE (by simp [pgS,callsUp]))
  simp only [pgS,List.mem_cons,List.not_mem_nil,or_false] at hfn
  subst hfn
  exact ⟨by simp,by simp,by show (([⟨9,0,0,0⟩] : List Nd).all fun nd => Q.may 0 1 0 1 nd 1) = true;decide⟩
theorem JK (g : Nat) : killA (pgS g) 4 4 0 = [0]:=by
  rw [yC]
  symm
  refine vC rfl fun f m hm => ?_
  have hlt:=(List.getElem?_eq_some_iff.1 hm).1
  have h0 : f = 0:=by simp at hlt;omega
  subst h0
  have h1 : m = 0:=by simp at hm;omega
  subst h1
  refine lG.congr fun id _ => ⟨fun h => h.elim,?_⟩
  rintro ⟨y,fn,_,hfn,x,hx,hk,_⟩
  have hmem:=List.mem_of_getElem? hfn
  simp only [pgS,List.mem_cons,List.not_mem_nil,or_false] at hmem
  subst hmem
  rw [List.mem_singleton.1 hx] at hk
  simp at hk
theorem LC (g : Nat) : Mu.ans (pgS g) [0] [scS g] 0 = (0,-1,3):=by kernel_rfl
set_option maxRecDepth 100000 in
set_option maxHeartbeats 1600000 in
theorem l2 (w : World) (ht : Tab w) : Calls Tryd.prog 7 #[] w fun e w' => e = .returned (.bool true) ∧ Below w.heap.size w w':=by
  have hw1:=ht.size
  have HW0:=kp (vY w (Below.refl _ _) (Nat.le_refl _))
  have hs0:=HW0.out.size
  have HT:=kp (Tab.below ht HW0.out hw1)
  clear ht
  go_enter Tryd.func7,Tryd.ntmps7
  go_wp2_with fail
  refine (lS _ (pgS w.heap.size) (pgSW w) (LW w) (Nat.le_refl _) (uP _) HT.out 0 0 0 (uQ _) [0] (JK _) (some ⟨w.heap.size + 4,0,none⟩) 1 1 [scS w.heap.size] (LU w) (Nat.le_refl _) (by simp [maxLen]) (0,-1,3) (LC _)).mono ?_
  rintro e w1 ⟨rfl,hb1⟩
  have HB1:=kp (HW0.out.trans (hb1.mono hs0))
  have hs1:=HB1.out.size
  clear hb1
  go_wp2_with (first
    | ((with_reducible show Sl 1);go_must (refine j6 rfl 30 rfl (ftC 0 0 0) lL ?_);intro gF w2 hgF hk2 hb2;have HGF:=kp hgF;have HF2:=kp hk2;have HB2:=kp (HB1.out.trans (hb2.mono hs1));have hs2:=HB2.out.size;clear hgF hk2 hb2)
    | ((with_reducible show Sn);go_must (refine j7 rfl 30 (.tmp 1) (.tmp 13) rfl gF (ftC 0 (-1) 3) rfl rfl _ _ HF2.out jO rfl (l6 _ _ _) ?_);intro w3 hk3 hg3 hz3
       have HB3:=kp (HB2.out.grown hg3 hs2 (fun k e => by cases e;have:=HGF.out;omega));obtain ⟨hf0,hf1,hf2⟩:=jW hk3;clear hk3 hg3 hz3))
  go_ret
  exact ⟨rfl,HB3.out⟩
def cellsR {α : Type} (sz : Nat) (f : α → Nat → Value) (l : List α) : List Value:=l.flatMap fun x => (List.range sz).map (f x)
theorem uC {α : Type} (sz : Nat) (f : α → Nat → Value) (l l' : List α) : cellsR sz f (l ++ l') = cellsR sz f l ++ cellsR sz f l':=by unfold cellsR;rw [List.flatMap_append]
theorem yZ {α : Type} (sz : Nat) (f : α → Nat → Value) : ∀ (l : List α) (k j : Nat) (x : α),l[k]? = some x → j < sz → (cellsR sz f l)[k * sz + j]? = some (f x j)
  | [],k,j,x,h,_ => by simp at h
  | y :: l,0,j,x,h,hj => by
    have e : y = x:=by simpa using h
    subst e
    unfold cellsR
    rw [List.flatMap_cons,Nat.zero_mul,Nat.zero_add,List.getElem?_append_left (by simpa using hj),List.getElem?_map,List.getElem?_range hj];rfl
  | y :: l,k + 1,j,x,h,hj => by
    have ih:=yZ sz f l k j x (by simpa using h) hj
    unfold cellsR at ih ⊢
    rw [List.flatMap_cons,List.getElem?_append_right (by simp [Nat.add_mul];omega),List.length_map,List.length_range,show (k + 1) * sz + j - sz = k * sz + j by rw [Nat.add_mul];omega]
    exact ih
def OwnR {α : Type} (sz : Nat) (f : α → Nat → Value) (w : World) (B : Nat) (e : TypeId) (v : Value) (l : List α) : Prop:=w.ownsRow B e sz v l.length (cellsR sz f l)
section
variable {α : Type} {sz : Nat} {f : α → Nat → Value} {w w' : World} {B : Nat} {e : TypeId} {v : Value} {l : List α}
theorem OwnR.nil (sz : Nat) (f : α → Nat → Value) (w : World) (B : Nat) (e : TypeId) : OwnR sz f w B e (.slice none 0 0) []:=World.ownsRow_nil w B e sz
theorem OwnR.block (h : OwnR sz f w B e v l) : ∀ k,v.ownBlock = some k → B ≤ k ∧ k < w.heap.size:=World.ownsRow.lt h
theorem OwnR.far {row : Option Nat} (h : OwnR sz f w B e v l) (hg : w.grownBy w' row) (hne : v.ownBlock = none ∨ v.ownBlock ≠ row) : OwnR sz f w' B e v l:=World.ownsRow.kept h hg hne
theorem OwnR.below {C : Nat} (h : OwnR sz f w B e v l) (hb : Below C w w') (hC : w.heap.size ≤ C) : OwnR sz f w' B e v l:=by
  refine h.far (row:=none) ⟨hb.os,hb.tape,hb.output,hb.size,fun i hi _ => hb.block i (by omega)⟩ ?_
  cases hv : v.ownBlock with
  | none => exact .inl rfl
  | some k => exact .inr (by simp)
theorem OwnR.form (h : OwnR sz f w B e v l) : ∃ A cap,v = .slice A l.length cap ∧ l.length ≤ cap ∧ cap ≤ maxLen ∧ Recs sz f w w.heap.size A l.length l:=by
  rcases h.2 with ⟨hv,h0⟩ | ⟨g,cap,cur,hv,hB,hg,hn,hm,hs,ht⟩
  · refine ⟨none,0,by rw [h0];exact hv,by omega,by simp [maxLen],⟨rfl,fun hn => by omega⟩⟩
  · refine ⟨_,cap,hv,hn,hm,⟨rfl,fun _ => ⟨_,rfl,?_,fun k x hx j hj => ?_⟩⟩⟩
    · exact (World.ownsRow.lt h g (by rw [hv];rfl)).2
    · exact World.ownsRow.cells h (g:=g) (by rw [hv];rfl) _ _ (yZ sz f l k j x hx hj)
end
theorem qM {P : Program} {ops : Array Oper} {rest : List Oper} {o : Oper} {a : Act} {Q : Exit → Act → World → Prop} (hgd : o.guard = none) (s x : Operand) (t : TypeId)
    (ho : o.op = .call { callee:=.builtin .append,args:=#[s,x],argTypes:=#[t,t] })
    (B : Nat) (e : TypeId) (sz : Nat) (z : Value) (bytes : Nat) (ht : P.underlying t = some (.slice e)) (hi : (P.info? e).map (fun i => (i.zero,i.size,i.bytes)) = some (some z,sz,bytes)) (hzs : z.cells.size = sz) (hsz : 0 < sz)
    {α : Type} (f : α → Nat → Value) (hone : ∀ x j,(f x j).oneCell' = true)
    (w : World) (v : Value) (l : List α) (u : α) (hs : a.eval s = v) (hown : OwnR sz f w B e v l) (ad : Addr) (c : Nat) (hx : a.eval x = .slice (some ad) 1 c) (had : ad = ⟨w.heap.size,0,none⟩)
    (cs : Array Value) (hcs : cs = ((List.range sz).map (f u)).toArray) (h63 : l.length + 1 ≤ maxLen) (hbytes : (l.length + 1) * bytes ≤ 140737488355328) (hB : B ≤ w.heap.size)
    (h : ∀ v' w',OwnR sz f w' B e v' (l ++ [u]) → Grew w w' v v' → wpList P ops Q rest (a.put o.dst v') w') : wpList P ops Q (o :: rest) a (w.alloc (.cells cs e)):=by
  subst had
  subst hcs
  obtain ⟨i,hi0,hzz⟩:=Option.map_eq_some_iff.1 hi
  simp only [Prod.mk.injEq] at hzz
  obtain ⟨hz,hsize,hby⟩:=hzz
  have hnb:=Blk.new w e ((List.range sz).map (f u))
  refine wpList_append_lies _ hgd s x t ho B e i z sz bytes ht hi0 hz hsize hby hzs hsz v l.length (cellsR sz f l) hs (World.ownsRow.alloc hown _) _ 1 c ((List.range sz).map (f u)) hx (by simp)
    (fun j y hy => by
      have hadd : (⟨w.heap.size,0,none⟩ : Addr).add j = ⟨w.heap.size,j,none⟩:=by unfold Addr.add;split <;> simp_all
      rw [hadd,hnb.cell j];exact hy)
    (fun y hy => by
      obtain ⟨j,_,rfl⟩:=List.mem_map.1 hy
      exact hone u j)
    (by omega) h63 hbytes (by simp;omega) _ rfl ?_
  intro g cap w' h2 h3 h4 h5
  refine h _ w' ?_ ⟨xP _ _ _ h3,?_⟩
  rotate_left
  · rcases h4 with h4 | h4
    · exact .inl h4.symm
    · refine .inr fun k hk => ?_
      have : g = k:=by simpa [Value.ownBlock] using hk
      subst this
      rw [h4];simp
  unfold OwnR
  rw [List.length_append,List.length_singleton,uC]
  have e1 : cellsR sz f [u] = (List.range sz).map (f u):=by simp [cellsR]
  rw [e1]
  exact h2
theorem OwnR.empty {α : Type} (sz : Nat) (f : α → Nat → Value) (w : World) (B : Nat) (e : TypeId) (hB : B ≤ w.heap.size) : OwnR sz f (w.alloc (.cells #[] e)) B e (.slice (some ⟨w.heap.size,0,none⟩) 0 0) [] :=
  ⟨by simp [cellsR],.inr ⟨w.heap.size,0,#[],rfl,hB,heap_alloc_new w _,Nat.le_refl _,by simp [maxLen],by simp,by simp [cellsR]⟩⟩
end Go.Proofs.YtlgaefenhfmjfaaDoor
namespace Go.Proofs.YtlgaefenhfmjfaaDoor
open Go.RowKit
theorem JH : (Tryd.prog.info? 54).map (fun i => (i.zero,i.size,i.bytes)) = some (some (.agg #[.int .u32 0,.int .u32 0,.slice none 0 0,.int .u32 0,.int .u32 0,.slice none 0 0]),6,64):=by kernel_rfl
theorem LA : ∀ (x : Sc) j,(scV x j).oneCell' = true:=by
  intro x j
  match j with
  | 0 => rfl
  | 1 => rfl
  | 2 => rfl
  | 3 => rfl
  | 4 => rfl
  | _ + 5 => rfl
structure WsOwn (w : World) (B : Nat) (x : Ws) : Prop where
  own : Own w B 51 x.v (x.z.map wordV)
  u32 : ∀ y ∈ x.z,y < 4294967296
  len : x.z.length = x.len
theorem WsOwn.below {w w' : World} {B C : Nat} {x : Ws} (h : WsOwn w B x) (hb : Below C w w') (hC : w.heap.size ≤ C) : WsOwn w' B x:=⟨h.own.below hb hC,h.u32,h.len⟩
theorem WsOwn.less {w : World} {B B' : Nat} {x : Ws} (h : WsOwn w B x) (hB : B' ≤ B) : WsOwn w B' x:=⟨h.own.less hB,h.u32,h.len⟩
theorem WsOwn.ok {w : World} {B : Nat} {x : Ws} (h : WsOwn w B x) : x.Ok w w.heap.size:=by
  obtain ⟨A,cap,e,hc,hm,hr⟩:=h.own.readsN h.len
  unfold Ws.v at e
  injection e with e1 e2 e3
  subst e1;subst e3
  exact ⟨hr,h.u32,hc,hm⟩
theorem uT {w : World} {B B' : Nat} {e e' : TypeId} {v v' : Value} {xs : List Value} {ls : List Sc} (h : Own w B e v xs) (h' : OwnR 6 scV w B' e' v' ls) (hne : e ≠ e') : v.ownBlock = none ∨ v.ownBlock ≠ v'.ownBlock:=by
  rcases h.2 with ⟨rfl,_⟩ | ⟨g,cap,cur,rfl,_,hg,_⟩
  · exact .inl rfl
  · rcases h'.2 with ⟨rfl,_⟩ | ⟨g2,cap2,cur2,rfl,_,hg2,_⟩
    · exact .inr (by simp [Value.ownBlock])
    · refine .inr fun e1 => ?_
      have e2 : g = g2:=by simpa [Value.ownBlock] using e1
      subst e2
      rw [hg] at hg2
      injection hg2 with hg2
      injection hg2 with _ hg2 _
      exact hne hg2
structure SecOwn (w : World) (B : Nat) (x : Sc) : Prop where
  en : x.en < 4294967296
  ex : x.ex < 4294967296
  held : WsOwn w B x.held
  le : x.le < 4294967296
  lx : x.lx < 4294967296
  live : WsOwn w B x.live
theorem SecOwn.below {w w' : World} {B C : Nat} {x : Sc} (h : SecOwn w B x) (hb : Below C w w') (hC : w.heap.size ≤ C) : SecOwn w' B x:=⟨h.en,h.ex,h.held.below hb hC,h.le,h.lx,h.live.below hb hC⟩
theorem SecOwn.ok {w : World} {B : Nat} {x : Sc} (h : SecOwn w B x) : x.Ok w w.heap.size:=⟨h.en,h.ex,h.held.ok,h.le,h.lx,h.live.ok⟩
structure SecRow (w : World) (B : Nat) (v : Value) (ls : List Sc) : Prop where
  row : OwnR 6 scV w B 54 v ls
  each : ∀ x ∈ ls,SecOwn w B x
theorem SecRow.nil (w : World) (B : Nat) : SecRow w B (.slice none 0 0) []:=⟨OwnR.nil _ _ _ _ _,fun x hx => by cases hx⟩
theorem SecRow.below {w w' : World} {B C : Nat} {v : Value} {ls : List Sc} (h : SecRow w B v ls) (hb : Below C w w') (hC : w.heap.size ≤ C) : SecRow w' B v ls :=
  ⟨h.row.far (row:=none) ⟨hb.os,hb.tape,hb.output,hb.size,fun i hi _ => hb.block i (by omega)⟩ (by
    cases hv : v.ownBlock with
    | none => exact .inl rfl
    | some k => exact .inr (by simp)),fun x hx => (h.each x hx).below hb hC⟩
theorem SecRow.secs {w : World} {B : Nat} {v : Value} {ls : List Sc} (h : SecRow w B v ls) : ∃ A cap,v = .slice A ls.length cap ∧ ls.length ≤ cap ∧ cap ≤ maxLen ∧ Secs w w.heap.size A ls.length ls:=by
  obtain ⟨A,cap,e,hc,hm,hr⟩:=h.row.form
  exact ⟨A,cap,e,hc,hm,hr,fun x hx => (h.each x hx).ok⟩
theorem WsOwn.far {w w' : World} {B B' : Nat} {x : Ws} {v v' : Value} {ls : List Sc} (h : WsOwn w B x) (hr : OwnR 6 scV w B' 54 v ls) (hg : Grew w w' v v') : WsOwn w' B x:=⟨h.own.far hg.1 (uT h.own hr (by decide)),h.u32,h.len⟩
theorem SecOwn.far {w w' : World} {B B' : Nat} {x : Sc} {v v' : Value} {ls : List Sc} (h : SecOwn w B x) (hr : OwnR 6 scV w B' 54 v ls) (hg : Grew w w' v v') : SecOwn w' B x:=⟨h.en,h.ex,h.held.far hr hg,h.le,h.lx,h.live.far hr hg⟩
theorem SecRow.push {w w' : World} {B : Nat} {v v' : Value} {ls : List Sc} {x : Sc} (h : SecRow w B v ls) (hx : SecOwn w B x) (ho : OwnR 6 scV w' B 54 v' (ls ++ [x])) (hg : Grew w w' v v') : SecRow w' B v' (ls ++ [x]):=by
  refine ⟨ho,fun y hy => ?_⟩
  rcases List.mem_append.1 hy with hy | hy
  · exact (h.each y hy).far h.row hg
  · rw [List.mem_singleton.1 hy];exact hx.far h.row hg
theorem SecRow.grew {w0 w w' : World} {B C : Nat} {v v' : Value} {ls : List Sc} (h : SecRow w B v ls) (hb : Below C w0 w) (hC : C ≤ B) (hC2 : C ≤ w.heap.size) (hg : Grew w w' v v') : Below C w0 w' :=
  hb.grown hg.1 hC2 fun k hk => Nat.le_trans hC (h.row.block k hk).1
namespace Mu
end Mu
end Go.Proofs.YtlgaefenhfmjfaaDoor
namespace Go.Proofs.YtlgaefenhfmjfaaDoor
open Go.RowKit
namespace Mu
structure IsU (x y u : Sc) : Prop where
  en : u.en = x.en ||| y.en
  ex : u.ex = x.ex ||| y.ex
  held : ∀ k,u.held.z.getD k 0 = x.held.z.getD k 0 ||| y.held.z.getD k 0
  hlen : u.held.len = x.held.len
  llen : u.live.len = x.live.len
theorem lP {a a' b b' : Nat} (h : S.within a a' 32 = true) (h' : S.within b b' 32 = true) : S.within (a ||| b) (a' ||| b') 32 = true:=by
  refine (S.within_iff _ _).2 fun i hi hb => ?_
  rw [Nat.testBit_or,Bool.or_eq_true] at hb ⊢
  exact hb.imp ((S.within_iff _ _).1 h i hi) ((S.within_iff _ _).1 h' i hi)
theorem J9 {us : List Nat} {a b l : List Sc} {n : Nd} {x y : Nat} (he : n.kind = 7 → (l.getD n.arg.toNat default).ex = (a.getD n.arg.toNat default).ex ||| (b.getD n.arg.toNat default).ex) :
    S.within (behind us a n x ||| behind us b n y) (behind us l n (x ||| y)) 32 = true:=by
  refine (S.within_iff _ _).2 fun i _ hb => ?_
  unfold behind at hb ⊢
  by_cases h3 : n.kind = 3
  · rw [if_pos h3,if_pos h3] at hb
    rw [if_pos h3]
    simp only [Nat.testBit_or,Bool.or_eq_true] at hb ⊢
    rcases hb with (h | h) | (h | h) <;> simp [h]
  rw [if_neg h3,if_neg h3] at hb
  rw [if_neg h3]
  by_cases h4 : n.kind = 4
  · rw [if_pos h4,if_pos h4] at hb
    rw [if_pos h4]
    simp only [Nat.testBit_or,Nat.testBit_and,Bool.or_eq_true,Bool.and_eq_true] at hb ⊢
    rcases hb with ⟨h1,h2⟩ | ⟨h1,h2⟩ <;> simp [h1,h2]
  rw [if_neg h4,if_neg h4] at hb
  rw [if_neg h4]
  by_cases h7 : n.kind = 7
  · rw [if_pos h7,if_pos h7] at hb
    rw [if_pos h7,he h7]
    simp only [Nat.testBit_or,Nat.testBit_and,Bool.or_eq_true,Bool.and_eq_true] at hb ⊢
    rcases hb with (⟨h1,h2⟩ | h1) | (⟨h1,h2⟩ | h1)
    · exact .inl ⟨.inl h1,h2⟩
    · exact .inr (.inl h1)
    · exact .inl ⟨.inr h1,h2⟩
    · exact .inr (.inr h1)
  · rw [if_neg h7,if_neg h7] at hb
    rw [if_neg h7]
    exact hb
theorem check_union {p : Pg} {us : List Nat} {a b l : List Sc} (ha : (check p us a).2.2 = 0) (hb : (check p us b).2.2 = 0) (hsh : shaped p l = true) (hu : ∀ f,f < p.len → IsU (sec a f) (sec b f) (sec l f))
    (hfit : ∀ f n,f < p.len → n ∈ (fn p f).nodes → n.kind = 7 → n.arg.toNat < p.len) : check p us l = (0,0,0):=by
  obtain ⟨_,ha⟩:=check_fine ha
  obtain ⟨_,hb⟩:=check_fine hb
  refine check_none hsh fun f hf => xE.2 ?_
  obtain ⟨a1,a2,a3⟩:=xE.1 (ha f hf)
  obtain ⟨b1,b2,b3⟩:=xE.1 (hb f hf)
  have hU:=hu f hf
  refine ⟨fun h => by rw [hU.en,a1 h,b1 h];rfl,?_,fun i hi => ?_⟩
  · rw [hU.held,hU.en];exact lP a2 b2
  · have ai:=a3 i hi
    have bi:=b3 i hi
    unfold at_ at ai bi ⊢
    have hnd : (fn p f).nodes[i]? = some ((fn p f).nodes.getD i default):=by rw [List.getD_eq_getElem?_getD,List.getElem?_eq_getElem hi];rfl
    generalize (fn p f).nodes.getD i default = n at *
    obtain ⟨p1,p2,p3⟩:=xA.1 ai
    obtain ⟨q1,q2,q3⟩:=xA.1 bi
    have hcall : n.kind = 7 → IsU (a.getD n.arg.toNat default) (b.getD n.arg.toNat default) (l.getD n.arg.toNat default):=fun h7 => hu _ (hfit f n hf (List.mem_of_getElem? hnd) h7)
    refine xA.2 ⟨fun h7 => ?_,fun h9 => ?_,fun to ht => ?_⟩
    · rw [(hcall h7).en,hU.held];exact lP (p1 h7) (q1 h7)
    · rw [hU.ex,hU.held];exact lP (p2 h9) (q2 h9)
    · rw [hU.held,hU.held]
      exact S.within_trans _ _ _ (lP (p3 to ht) (q3 to ht)) (J9 fun h7 => (hcall h7).ex)
end Mu
theorem lX {P : Program} {ops : Array Oper} {rest : List Oper} {o : Oper} {a : Act} {Q : Exit → Act → World → Prop} (hgd : o.guard = none) (s x : Operand) (t : TypeId)
    (ho : o.op = .call { callee:=.builtin .append,args:=#[s,x],argTypes:=#[t,t] })
    (B : Nat) (e : TypeId) (z : Value) (bytes : Nat) (ht : P.underlying t = some (.slice e)) (hi : (P.info? e).map (fun i => (i.zero,i.size,i.bytes)) = some (some z,1,bytes)) (hzs : z.cells.size = 1)
    (w : World) (g n cap : Nat) (xs : List Value) (hs : a.eval s = .slice (some ⟨g,0,none⟩) n cap) (hown : Own w B e (.slice (some ⟨g,0,none⟩) n cap) xs) (hn : xs.length = n) (hroom : n + 1 ≤ cap) (gn c : Nat) (u : Value) (hx : a.eval x = .slice (some ⟨gn,0,none⟩) 1 c) (hbk : Blk w gn e [u])
    (h1 : u.oneCell' = true) (hbytes : (n + 1) * bytes ≤ 140737488355328) (hB : B ≤ w.heap.size)
    (h : ∀ w',Own w' B e (.slice (some ⟨g,0,none⟩) (n + 1) cap) (xs ++ [u]) → w.grownBy w' (some g) → wpList P ops Q rest (a.put o.dst (.slice (some ⟨g,0,none⟩) (n + 1) cap)) w') : wpList P ops Q (o :: rest) a w:=by
  subst hn
  refine wpList_plain hgd fun K hK => ?_
  have hrow : Row (fun u => u) w w.heap.size (some ⟨gn,0,none⟩) 1 [u]:=Blk.row (f:=fun u => u) (l:=[u]) (by simpa using hbk) rfl (Nat.le_refl _)
  have hcm : cap ≤ maxLen:=by
    rcases hown.2 with ⟨h2,_⟩ | ⟨_,_,_,h2,_,_,_,h3,_⟩
    · cases h2
    · injection h2 with _ _ h2;subst h2;exact h3
  obtain ⟨v',w',hr,h2,h3⟩:=yK (P:=P) t o.type B e z bytes ht hi hzs w _ xs hown (some ⟨gn,0,none⟩) 1 c w.heap.size [u] hrow (by simpa using h1) (by omega) hbytes hB
  have hv : v' = .slice (some ⟨g,0,none⟩) (xs.length + 1) cap:=by
    obtain ⟨i,hi0,hz,hsize,hby⟩:=info_parts hi
    rcases hown.2 with ⟨h4,_⟩ | ⟨g2,cap2,cur,h4,_,hg,_,_,hcs,_⟩
    · cases h4
    · injection h4 with h4 _ h5
      injection h4 with h4
      injection h4 with h4
      subst h4;subst h5
      have h6:=run_append_room (P:=P) w t o.type e i ht hi0 g xs.length cap cur hg ⟨gn,0,none⟩ 1 c [u] (by rw [hsize];rfl) (fun j y hy => by
        rw [show (⟨gn,0,none⟩ : Addr).add j = ⟨gn,j,none⟩ from l7 _ _,hbk.cell j];exact hy) (by simpa using h1) hroom (by rw [hsize,hcs];simp;omega)
      rw [hr] at h6
      injection h6 with h6 _
  subst hv
  have hg : w.grownBy w' (some g):=h3.1
  unfold Oper.wp execOp
  simp only [ho,resolve,invoke,builtin,Sem.run_bind,Sem.run_pure,Result.andThen_ok,List.map_toArray,List.map_cons,List.map_nil,hs,hx,hr]
  exact hK _ _ (h w' h2 hg)
theorem jR {P : Program} {ops : Array Oper} {rest : List Oper} {o : Oper} {a : Act} {Q : Exit → Act → World → Prop} (hgd : o.guard = none) (s x : Operand) (t : TypeId)
    (ho : o.op = .call { callee:=.builtin .append,args:=#[s,x],argTypes:=#[t,t] })
    (B : Nat) (e : TypeId) (z : Value) (bytes : Nat) (ht : P.underlying t = some (.slice e)) (hi : (P.info? e).map (fun i => (i.zero,i.size,i.bytes)) = some (some z,1,bytes)) (hzs : z.cells.size = 1)
    (w : World) (v : Value) (xs : List Value) (hs : a.eval s = v) (hown : Own w B e v xs) (hfull : ∀ g n cap,v = .slice (some ⟨g,0,none⟩) n cap → cap = n) (A : Option Addr) (m c C : Nat) (news : List Value) (hx : a.eval x = .slice A m c) (hr : Row (fun u => u) w C A m news)
    (h1 : ∀ u ∈ news,u.oneCell' = true) (h63 : xs.length + m ≤ maxLen) (hbytes : (xs.length + m) * bytes ≤ 140737488355328) (hB : B ≤ w.heap.size)
    (h : ∀ v' w',Own w' B e v' (xs ++ news) → Below w.heap.size w w' → wpList P ops Q rest (a.put o.dst v') w') : wpList P ops Q (o :: rest) a w:=by
  refine wpList_plain hgd fun K hK => ?_
  obtain ⟨v',w',hrun,h2,h3⟩:=yK (P:=P) t o.type B e z bytes ht hi hzs w v xs hown A m c C news hr h1 h63 hbytes hB
  have hb : Below w.heap.size w w':=by
    obtain ⟨i,hi0,hz,hsize,hby⟩:=info_parts hi
    have hlm:=hr.len
    have h63' : xs.length + m ≤ 9223372036854775807:=by simp only [maxLen] at h63;omega
    have same : (w.drew).heap = w.heap:=rfl
    rcases A with _ | ad
    · have hm : m = 0:=by
        rcases Nat.eq_zero_or_pos m with h0 | h0
        · exact h0
        · obtain ⟨_,h,_⟩:=hr.cells h0
          cases h
      subst hm
      have hrun2 : (Builtin.append_ #[t,t] o.type #[v,.slice none 0 c]).run P w = .ok v w:=by
        rcases hown.2 with ⟨rfl,h0⟩ | ⟨g,cap,cur,rfl,_,_,hnc,_⟩
        · simp [Builtin.append_,run_underlying ht,sizeOf,typeInfo,hi0,Builtin.lenOf,Builtin.firstCells]
        · simp [Builtin.append_,run_underlying ht,sizeOf,typeInfo,hi0,Builtin.lenOf,Builtin.firstCells,hnc,storeCells]
      rw [hrun] at hrun2
      injection hrun2 with _ e1
      subst e1
      exact Below.refl _ _
    · have hcells : ∀ j u,news[j]? = some u → w.cell? (ad.add j) = some u:=by
        intro j u hu
        have hj : j < m:=by
          have:=(List.getElem?_eq_some_iff.1 hu).1
          rw [hlm] at this;exact this
        obtain ⟨ad',x,e1,_,hx,hc⟩:=hr.get hj
        cases e1
        rw [hx] at hu;cases hu;exact hc
      rcases hown.2 with ⟨rfl,h0⟩ | ⟨g,cap,cur,rfl,_,hg,hnc,hcm,hcs,htake⟩
      · by_cases hm : m = 0
        · subst hm
          have hrun2 : (Builtin.append_ #[t,t] o.type #[.slice none 0 0,.slice (some ad) 0 c]).run P w = .ok (.slice none 0 0) w:=by
            simp [Builtin.append_,run_underlying ht,sizeOf,typeInfo,hi0,Builtin.lenOf,Builtin.firstCells,loadCells,loadCellsFrom]
          rw [hrun] at hrun2
          injection hrun2 with _ e1
          subst e1
          exact Below.refl _ _
        · have hrun2:=run_append_nil (P:=P) w t o.type e i z ht hi0 hz ad m c news (by rw [hsize];omega) hcells (by omega) (by omega) (by rw [hby];have hb:=hbytes;rw [h0] at hb;simp only [Nat.zero_add] at hb;omega)
          rw [hrun] at hrun2
          injection hrun2 with _ e1
          subst e1
          exact ⟨rfl,rfl,rfl,by simp,fun k hk => heap_alloc_old w.drew _ hk⟩
      · have hce:=hfull g _ cap rfl
        subst hce
        by_cases hm : m = 0
        · subst hm
          have hn0 : news = []:=List.eq_nil_of_length_eq_zero hlm
          subst hn0
          have hrun2:=run_append_room (P:=P) w t o.type e i ht hi0 g xs.length xs.length cur hg ad 0 c [] (by simp) (fun j u hu => by simp at hu) (by simp) (by omega) (by rw [hsize,hcs];simp)
          rw [hrun] at hrun2
          injection hrun2 with _ e1
          subst e1
          refine ⟨rfl,rfl,rfl,by simp,fun k hk => ?_⟩
          by_cases e2 : k = g
          · subst e2
            rw [setRow_heap w k cur _ e _ hg,hg]
            simp
          · exact setRow_other w g k _ e2
        · have holds : ∀ j u,xs[j]? = some u → w.cell? ((⟨g,0,none⟩ : Addr).add j) = some u:=World.ownsRow.cells hown (g:=g) rfl
          have hrun2:=run_append_grow (P:=P) w t o.type e i z ht hi0 hz ⟨g,0,none⟩ xs.length xs.length xs (by rw [hsize];omega) holds ad m c news (by rw [hsize];omega) hcells (by omega) (by omega) (growslice_fits (by omega) (by rw [hby];exact hbytes))
          rw [hrun] at hrun2
          injection hrun2 with _ e1
          subst e1
          exact ⟨rfl,rfl,rfl,by simp,fun k hk => heap_alloc_old w.drew _ hk⟩
  unfold Oper.wp execOp
  simp only [ho,resolve,invoke,builtin,Sem.run_bind,Sem.run_pure,Result.andThen_ok,List.map_toArray,List.map_cons,List.map_nil,hs,hx,hrun]
  exact hK _ _ (h v' w' h2 hb)
end Go.Proofs.YtlgaefenhfmjfaaDoor
namespace Go.Proofs.YtlgaefenhfmjfaaDoor
open Go.RowKit
theorem uS (W : World) (B : Nat) (hB : B ≤ W.heap.size) : Own (W.alloc (.cells #[] 51)) B 51 (.slice (some ⟨W.heap.size,0,none⟩) 0 0) []:=Own.new W B 51 [] hB (by simp)
def Fact.nilw (B : Nat) : Fact :=
  ⟨fun v W => ∃ g,v = .slice (some ⟨g,0,none⟩) 0 0 ∧ Own W B 51 v [],fun _ _ _ hb ⟨g,h1,h2⟩ => ⟨g,h1,h2.below hb (Nat.le_refl _)⟩⟩
theorem Row.rows15 {w : World} {B n : Nat} {A : Option Addr} {l : List Nat} (h : Row wordV w B A n l) : Row (fun u => u) w B A n (l.map wordV) :=
  ⟨by rw [List.length_map];exact h.len,fun hn => by
    obtain ⟨ad,e,hb,hc⟩:=h.cells hn
    exact ⟨ad,e,hb,fun k hk => by rw [hc k hk,List.getElem?_map];cases l[k]? <;> rfl⟩⟩
theorem zW {l : List Nat} : ∀ u ∈ l.map wordV,u.oneCell' = true:=fun u hu => by
  obtain ⟨x,_,rfl⟩:=List.mem_map.1 hu
  rfl
theorem yA {x : Nat} : ∀ u ∈ [wordV x],u.oneCell' = true:=fun u hu => by rw [List.mem_singleton.1 hu];rfl
def Fact.wset (B : Nat) (z : List Nat) (n : Nat) : Fact :=
  ⟨fun v W => ∃ x : Ws,v = x.v ∧ x.z = z ∧ x.len = n ∧ WsOwn W B x,fun _ _ _ hb ⟨x,h1,h2,h3,h4⟩ => ⟨x,h1,h2,h3,h4.below hb (Nat.le_refl _)⟩⟩
theorem zB {W : World} {B n : Nat} {v : Value} {l : List Nat} (h : Own W B 51 v (l.map wordV)) (hu : ∀ y ∈ l,y < 4294967296) (hn : l.length = n) : ∃ x : Ws,v = x.v ∧ x.z = l ∧ x.len = n ∧ WsOwn W B x:=by
  obtain ⟨A,cap,rfl,_⟩:=h.readsN hn
  exact ⟨⟨A,n,cap,l⟩,rfl,rfl,rfl,⟨h,hu,hn⟩⟩
def Fact.usec (B e x n : Nat) : Fact :=
  ⟨fun v W => ∃ xs : Sc,v = scA xs ∧ xs.en = e ∧ xs.ex = x ∧ xs.held = default ∧ xs.live.len = n ∧ SecOwn W B xs,fun _ _ _ hb ⟨xs,h1,h2,h3,h4,h5,h6⟩ => ⟨xs,h1,h2,h3,h4,h5,h6.below hb (Nat.le_refl _)⟩⟩
def Fact.secNew (K : Nat) : Fact :=
  ⟨fun v W => ∃ g,v = .pointer (some ⟨g,0,none⟩) ∧ Blk W g 54 (scC default) ∧ K ≤ g,fun _ _ _ hb ⟨g,h1,h2,h3⟩ => ⟨g,h1,h2.below hb h2.lt,h3⟩⟩
def GFact.elem15 (G : Nat → Prop) (e : TypeId) (cs : List Value) (K : Nat) : GFact G :=
  ⟨fun v W => ∃ gn,v = .slice (some ⟨gn,0,none⟩) 1 1 ∧ Blk W gn e cs ∧ ¬ G gn ∧ K ≤ gn,fun _ _ _ ho ⟨gn,h1,h2,h3,h4⟩ => ⟨gn,h1,ho.blk h2 h3,h3,h4⟩⟩
def Fact.elem15 (e : TypeId) (cs : List Value) : Fact :=
  ⟨fun v W => ∃ gn,v = .slice (some ⟨gn,0,none⟩) 1 1 ∧ Blk W gn e cs,fun _ _ _ hb ⟨gn,h1,h2⟩ => ⟨gn,h1,h2.below hb h2.lt⟩⟩
theorem yO (w : World) (B : Nat) : WsOwn w B default:=⟨Own.nil _ _ _,(fun y hy => by cases hy),rfl⟩
theorem zV {w : World} {B g : Nat} {e t : TypeId} {v : Value} {xs cs : List Value} (h : Own w B e v xs) (hb : Blk w g t cs) (hne : e ≠ t) : v.ownBlock = none ∨ v.ownBlock ≠ some g:=by
  rcases h.2 with ⟨rfl,_⟩ | ⟨q,cap,cur,rfl,_,hg,_⟩
  · exact .inl rfl
  · refine .inr fun e1 => ?_
    injection e1 with e1
    have e1 : q = g:=e1
    subst e1
    unfold Blk at hb
    rw [hg] at hb
    injection hb with hb
    injection hb with _ hb _
    exact hne hb
theorem WsOwn.typed15 {w w' : World} {B g : Nat} {x : Ws} {cs : List Value} (h : WsOwn w B x) (hb : Blk w g 54 cs) (hg : w.grownBy w' (some g)) : WsOwn w' B x:=⟨h.own.far hg (zV h.own hb (by decide)),h.u32,h.len⟩
theorem SecOwn.typed15 {w w' : World} {B g : Nat} {x : Sc} {cs : List Value} (h : SecOwn w B x) (hb : Blk w g 54 cs) (hg : w.grownBy w' (some g)) : SecOwn w' B x:=⟨h.en,h.ex,h.held.typed15 hb hg,h.le,h.lx,h.live.typed15 hb hg⟩
theorem yN {w w1 w2 : World} {g h : Nat} (hg : w.grownBy w1 (some g)) (hh : w1.grownBy w2 (some h)) (hn : w.heap.size ≤ h) : w.grownBy w2 (some g) :=
  ⟨hh.os.trans hg.os,hh.tape.trans hg.tape,hh.output.trans hg.output,Nat.le_trans hg.size hh.size,fun k hk hne => (hh.block k (Nat.lt_of_lt_of_le hk hg.size) (fun e => by cases e;omega)).trans (hg.block k hk hne)⟩
theorem x6 : (Tryd.prog.info? 52).map (·.size) = some 1:=by kernel_rfl
theorem LT {xs : Sc} (h : xs.held = default) : scC xs = scC ⟨xs.en,xs.ex,default,xs.le,xs.lx,xs.live⟩:=by
  cases xs
  simp only at h
  subst h
  rfl
theorem SecRow.far15 {w w' : World} {B g : Nat} {v : Value} {ls : List Sc} {cs : List Value} (h : SecRow w B v ls) (hg : w.grownBy w' (some g)) (hN : v.ownBlock = none ∨ v.ownBlock ≠ some g) (hb : Blk w g 54 cs) : SecRow w' B v ls :=
  ⟨h.row.far hg hN,fun x hx => (h.each x hx).typed15 hb hg⟩
theorem yE {l : List Nat} {k : Nat} (h : l.length ≤ k) : l.getD k 0 = 0:=by rw [List.getD_eq_getElem?_getD,List.getElem?_eq_none h];rfl
theorem J6 {p : Pg} {f i : Nat} {fn : Fn} {x : Nd} (hf : Fine p) (_hl : p.fns.length = p.len) (hfn : p.fns[f]? = some fn) (hx : fn.nodes[i]? = some x) (h7 : x.kind = 7) : x.arg.toNat < p.len:=by
  have hfit:=M.fit_of hf.counts (M.fine_node hf hfn hx) (M.fine_len hf hfn)
  have:=hfit.call h7
  have:=hfit.arg
  omega
def fewAt (x : Sc) : Bool:=decide (x.held.len ≤ 100) && decide (x.live.len ≤ 100)
def few (ls : List Sc) : Bool:=decide (ls.length ≤ 40) && ls.all fewAt
theorem y0 {ls : List Sc} : few ls = true ↔ ls.length ≤ 40 ∧ ∀ x ∈ ls,x.held.len ≤ 100 ∧ x.live.len ≤ 100:=by
  unfold few fewAt
  simp [List.all_eq_true]
theorem JZ {ls : List Sc} {i : Nat} {x : Sc} (hx : ls[i]? = some x) (h : ¬ (x.held.len ≤ 100 ∧ x.live.len ≤ 100)) : few ls = false:=by
  cases e : few ls with
  | false => rfl
  | true => exact absurd ((y0.1 e).2 x (List.mem_of_getElem? hx)) h
set_option maxRecDepth 100000 in
set_option maxHeartbeats 1600000 in
theorem qQ (B : Nat) (w : World) (lA : Option Addr) (ll lc : Nat) (ls : List Sc) (hl : Secs w B lA ll ls) (hlc : ll ≤ lc) (hlm : lc ≤ maxLen) (r : Bool) (hr : few ls = r) :
    Calls Tryd.prog 9 #[.slice lA ll lc] w fun e w' => e = .returned (.bool r) ∧ w = w':=by
  have HL:=kp hl;have HR:=kp hr
  have HLl:=kp hl.len_
  unfold maxLen at hlm
  clear hl hr
  go_enter Tryd.func9,Tryd.ntmps9
  by_cases h40 : 40 < ll
  · have HE : Kept (false = r):=kp (by
      rw [← HR.out]
      cases e : few ls with
      | false => rfl
      | true => have h1:=(y0.1 e).1;rw [HLl.out] at h1;omega)
    go_wp2
    go_ret
    exact ⟨jC HE.out,rfl⟩
  have h40b : decide ((40 : Int) < (ll : Int)) = false:=by simp;omega
  have H40 : Kept (ll ≤ 40):=kp (by omega)
  clear h40
  go_wp2
  go_loop [3] (fun v3 => ∃ i : Nat,i ≤ ll ∧ v3 = .int .i64 i ∧ ∀ x ∈ ls.take i,x.held.len ≤ 100 ∧ x.live.len ≤ 100) (fun v3 => ll - (intOf v3).toNat)
  case atStart => exact ⟨0,by omega,rfl,fun f hf => by simp at hf⟩
  case round =>
    obtain ⟨i,hi,rfl,hall⟩:=hrel
    have HAll:=kp hall
    clear hall
    by_cases hlt : i < ll
    · obtain ⟨ad1,x,e1,_,hx,hxok,hd0,hd1,hd2,hd5⟩:=HL.out.get hlt
      have hh:=hxok.held.lc;have hhm:=hxok.held.cm
      have hv:=hxok.live.lc;have hvm:=hxok.live.cm
      unfold maxLen at hhm hvm
      have HX:=kp hx
      clear hx hxok
      subst e1
      by_cases h1 : 100 < x.held.len
      · have HE : Kept (false = r):=kp (by rw [← HR.out];exact (JZ HX.out (by omega)).symm)
        have h1b : decide ((100 : Int) < (x.held.len : Int)) = true:=by simp;omega
        clear h1
        go_wp2
        go_ret
        exact ⟨jC HE.out,rfl⟩
      · have h1b : decide ((100 : Int) < (x.held.len : Int)) = false:=by simp;omega
        have H1:=kp h1
        clear h1
        by_cases h2 : 100 < x.live.len
        · have HE : Kept (false = r):=kp (by rw [← HR.out];exact (JZ HX.out (by omega)).symm)
          have h2b : decide ((100 : Int) < (x.live.len : Int)) = true:=by simp;omega
          clear h2
          go_wp2
          go_ret
          exact ⟨jC HE.out,rfl⟩
        · have h2b : decide ((100 : Int) < (x.live.len : Int)) = false:=by simp;omega
          have H2:=kp h2
          clear h2
          go_wp2
          go_round
          case rel => exact ⟨i + 1,by omega,by go_num,fun y hy => by
            rw [List.take_add_one,HX.out] at hy
            simp only [Option.toList_some,List.mem_append,List.mem_singleton] at hy
            rcases hy with hy | rfl
            · exact HAll.out y hy
            · have:=H1.out;have:=H2.out;omega⟩
          case measure => simp [intOf];omega
    · have HE : Kept (true = r):=kp (by
        rw [← HR.out]
        have h1:=HAll.out
        rw [List.take_of_length_le (by rw [HLl.out];omega)] at h1
        exact (y0.2 ⟨by rw [HLl.out];exact H40.out,h1⟩).symm)
      have hge : ll ≤ i:=by omega
      clear hlt
      go_wp2
      go_ret
      exact ⟨jC HE.out,rfl⟩
theorem l5 {P : Program} {ops : Array Oper} {rest : List Oper} {o : Oper} {a : Act} {w : World} {Q : Exit → Act → World → Prop} (hgd : o.guard = none) (ty : TypeId) (x y : Operand) (ho : o.op = .store ty x y)
    (g k : Nat) (v : Value) (hx : a.eval x = .pointer (some ⟨g,k,none⟩)) (hy : a.eval y = v) (h1 : v.oneCell' = true) (hc : v.cells = #[v])
    (t : TypeId) (cs : List Value) (hg : Blk w g t cs) (hk : k < cs.length) (hi : (P.info? ty).map (·.size) = some 1)
    (h : ∀ w',Blk w' g t (cs.set k v) → w.grownBy w' (some g) → w'.heap.size = w.heap.size → wpList P ops Q rest (a.put o.dst undef) w') : wpList P ops Q (o :: rest) a w:=by
  refine wpList_plain hgd fun K hK => ?_
  have hrun : (storeVar ty ⟨g,k,none⟩ v).run P w = .ok () (w.setCells g k [v]):=by
    have hst:=run_storeCells_cells (P:=P) g k [v] 0 w (fun j hj => by
      have : j = 0:=by simp at hj;exact hj
      subst this
      show (w.cell? ⟨g,k,none⟩).isSome = true
      rw [hg.cell,List.getElem?_eq_getElem hk];rfl) (fun j hj => by
      have : j = 0:=by simp at hj;exact hj
      subst this
      exact hg.frozen _) (fun u hu => by rw [List.mem_singleton] at hu;subst hu;exact h1)
    cases hq : P.info? ty with
    | none => simp [hq] at hi
    | some i =>
      have hs : i.size = 1:=by simpa [hq] using hi
      simp only [Nat.add_zero] at hst
      simp [storeVar,sizeOf,typeInfo,hq,hc,hs,hst]
  have hw : w.setCells g k [v] = w.setCell ⟨g,k,none⟩ v:=rfl
  rw [hw] at hrun
  unfold Oper.wp execOp
  simp only [ho,hx,hy,Instr.storeAt,Instr.sureAddr,Sem.run_bind,Sem.run_pure,Result.andThen_ok,hrun]
  exact hK _ _ (h _ (hg.set k v) (jK (jG _ _)) (by simp))
theorem gTab : Tryd.prog.globalNamed "math/bits.deBruijn32tab" = some 0:=by kernel_rfl
theorem LY : (Tryd.prog.globals[0]?).map (·.type) = some 145:=by kernel_rfl
theorem L6 : Tryd.prog.cellsOf 145 = 32:=by kernel_rfl
theorem J5 : Tryd.prog.cellsOf 5 = 1:=by kernel_rfl
theorem LJ : (Rows.laid_math_bits_deBruijn32tab : DataW Unit) = Lib.tabData .u8 (bruijn.map fun n : Nat => (n : Int)):=by kernel_rfl
theorem JU {W : World} (h : laidMetH Tryd.prog [("math/bits.deBruijn32tab",Rows.laid_math_bits_deBruijn32tab)] W) : Tab W:=by
  have h2 : laidMet Tryd.prog [("math/bits.deBruijn32tab",Rows.laid_math_bits_deBruijn32tab)] W:=h
  rw [LJ] at h2
  have ht:=Lib.tabIs_of_head (rest:=[]) gTab LY Tryd.underlying145 Tryd.underlying5 J5 L6 h2
  refine ⟨rfl,fun _ => ⟨_,rfl,by decide,fun k hk => ?_⟩⟩
  have hadd:=l7 0 k
  have hkl : k < bruijn.length:=hk
  rw [hadd,ht.cell gTab k (by rw [List.length_map];exact hkl),List.getElem?_eq_getElem hkl,List.getD_eq_getElem?_getD,List.getElem?_map,List.getElem?_eq_getElem hkl]
  rfl
noncomputable def laidWorld (os : Os) : World :=
  { World.holding Tryd.prog os ⟨#[],#[],[]⟩ with heap:=(World.holding Tryd.prog os ⟨#[],#[],[]⟩).heap.modify 0 fun
      | .cells _ t frozen => .cells (bruijn.map byteV).toArray t frozen
      | o => o }
end Go.Proofs.YtlgaefenhfmjfaaDoor
