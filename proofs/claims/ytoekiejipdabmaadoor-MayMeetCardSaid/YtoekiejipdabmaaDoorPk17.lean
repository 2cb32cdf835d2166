/- MustRow, MustRow3, MayRow. -/
import Derived.Test.YtoekiejipdabmaaDoorPk7
import Derived.Test.YtoekiejipdabmaaDoorPk2
import Derived.Test.YtoekiejipdabmaaDoorPk12
import Derived.Test.YtoekiejipdabmaaDoorPk3
import Derived.Test.YtoekiejipdabmaaDoorPk9
import Derived.Test.YtoekiejipdabmaaDoorPk6
namespace Go.Proofs.YtoekiejipdabmaaDoor
open Go.RowKit
theorem L4 : (Tryd.prog.info? 56).map (fun i => (i.zero,i.size,i.bytes)) = some (some (.agg #[.int .u32 0,.int .u32 0,.slice none 0 0,.int .u32 0,.int .u32 0,.slice none 0 0]),6,64):=by kernel_rfl
theorem XG : ∀ (x : Sc) j,(scV x j).oneCell' = true:=by
  intro x j
  match j with
  | 0 => rfl
  | 1 => rfl
  | 2 => rfl
  | 3 => rfl
  | 4 => rfl
  | _ + 5 => rfl
structure WsOwn (w : World) (B : Nat) (x : Ws) : Prop where
  own : Own w B 53 x.v (x.z.map wordV)
  u32 : ∀ y ∈ x.z,y < 4294967296
  len : x.z.length = x.len
theorem WsOwn.below {w w' : World} {B C : Nat} {x : Ws} (h : WsOwn w B x) (hb : Below C w w') (hC : w.heap.size ≤ C) : WsOwn w' B x:=⟨h.own.below hb hC,h.u32,h.len⟩
theorem WsOwn.less {w : World} {B B' : Nat} {x : Ws} (h : WsOwn w B x) (hB : B' ≤ B) : WsOwn w B' x:=⟨h.own.less hB,h.u32,h.len⟩
theorem WsOwn.ok {w : World} {B : Nat} {x : Ws} (h : WsOwn w B x) : x.Ok w w.heap.size:=by
  obtain ⟨A,cap,e,hc,hm,hr⟩:=h.own.readsN h.len
  unfold Ws.v at e
  injection e with e1 e2 e3
  subst e1;subst e3
  exact ⟨hr,h.u32,hc,hm⟩
theorem YC {w : World} {B B' : Nat} {e e' : TypeId} {v v' : Value} {xs : List Value} {ls : List Sc} (h : Own w B e v xs) (h' : OwnR 6 scV w B' e' v' ls) (hne : e ≠ e') : v.ownBlock = none ∨ v.ownBlock ≠ v'.ownBlock:=by
  rcases h.2 with ⟨rfl,_⟩ | ⟨g,cap,cur,rfl,_,hg,_⟩
  · exact .inl rfl
  · rcases h'.2 with ⟨rfl,_⟩ | ⟨g2,cap2,cur2,rfl,_,hg2,_⟩
    · exact .inr (by simp [Value.ownBlock])
    · refine .inr fun e1 => ?_
      have e2 : g = g2:=by simpa [Value.ownBlock] using e1
      subst e2
      rw [hg] at hg2
      injection hg2 with hg2
      injection hg2 with _ hg2 _
      exact hne hg2
structure SecOwn (w : World) (B : Nat) (x : Sc) : Prop where
  en : x.en < 4294967296
  ex : x.ex < 4294967296
  held : WsOwn w B x.held
  le : x.le < 4294967296
  lx : x.lx < 4294967296
  live : WsOwn w B x.live
theorem SecOwn.below {w w' : World} {B C : Nat} {x : Sc} (h : SecOwn w B x) (hb : Below C w w') (hC : w.heap.size ≤ C) : SecOwn w' B x:=⟨h.en,h.ex,h.held.below hb hC,h.le,h.lx,h.live.below hb hC⟩
theorem SecOwn.ok {w : World} {B : Nat} {x : Sc} (h : SecOwn w B x) : x.Ok w w.heap.size:=⟨h.en,h.ex,h.held.ok,h.le,h.lx,h.live.ok⟩
structure SecRow (w : World) (B : Nat) (v : Value) (ls : List Sc) : Prop where
  row : OwnR 6 scV w B 56 v ls
  each : ∀ x ∈ ls,SecOwn w B x
theorem SecRow.nil (w : World) (B : Nat) : SecRow w B (.slice none 0 0) []:=⟨OwnR.nil _ _ _ _ _,fun x hx => by cases hx⟩
theorem SecRow.below {w w' : World} {B C : Nat} {v : Value} {ls : List Sc} (h : SecRow w B v ls) (hb : Below C w w') (hC : w.heap.size ≤ C) : SecRow w' B v ls :=
  ⟨h.row.far (row:=none) ⟨hb.os,hb.tape,hb.output,hb.size,fun i hi _ => hb.block i (by omega)⟩ (by
    cases hv : v.ownBlock with
    | none => exact .inl rfl
    | some k => exact .inr (by simp)),fun x hx => (h.each x hx).below hb hC⟩
theorem SecRow.secs {w : World} {B : Nat} {v : Value} {ls : List Sc} (h : SecRow w B v ls) : ∃ A cap,v = .slice A ls.length cap ∧ ls.length ≤ cap ∧ cap ≤ maxLen ∧ Secs w w.heap.size A ls.length ls:=by
  obtain ⟨A,cap,e,hc,hm,hr⟩:=h.row.form
  exact ⟨A,cap,e,hc,hm,hr,fun x hx => (h.each x hx).ok⟩
theorem WsOwn.far {w w' : World} {B B' : Nat} {x : Ws} {v v' : Value} {ls : List Sc} (h : WsOwn w B x) (hr : OwnR 6 scV w B' 56 v ls) (hg : Grew w w' v v') : WsOwn w' B x:=⟨h.own.far hg.1 (YC h.own hr (by decide)),h.u32,h.len⟩
theorem SecOwn.far {w w' : World} {B B' : Nat} {x : Sc} {v v' : Value} {ls : List Sc} (h : SecOwn w B x) (hr : OwnR 6 scV w B' 56 v ls) (hg : Grew w w' v v') : SecOwn w' B x:=⟨h.en,h.ex,h.held.far hr hg,h.le,h.lx,h.live.far hr hg⟩
theorem SecRow.push {w w' : World} {B : Nat} {v v' : Value} {ls : List Sc} {x : Sc} (h : SecRow w B v ls) (hx : SecOwn w B x) (ho : OwnR 6 scV w' B 56 v' (ls ++ [x])) (hg : Grew w w' v v') : SecRow w' B v' (ls ++ [x]):=by
  refine ⟨ho,fun y hy => ?_⟩
  rcases List.mem_append.1 hy with hy | hy
  · exact (h.each y hy).far h.row hg
  · rw [List.mem_singleton.1 hy];exact hx.far h.row hg
theorem SecRow.grew {w0 w w' : World} {B C : Nat} {v v' : Value} {ls : List Sc} (h : SecRow w B v ls) (hb : Below C w0 w) (hC : C ≤ B) (hC2 : C ≤ w.heap.size) (hg : Grew w w' v v') : Below C w0 w' :=
  hb.grown hg.1 hC2 fun k hk => Nat.le_trans hC (h.row.block k hk).1
def Fact.zeros (B n : Nat) : Fact :=
  ⟨fun v W => ∃ x : Ws,v = x.v ∧ x.z = List.replicate n 0 ∧ x.len = n ∧ WsOwn W B x,fun _ _ _ hb ⟨x,h1,h2,h3,h4⟩ => ⟨x,h1,h2,h3,h4.below hb (Nat.le_refl _)⟩⟩
namespace Mu
end Mu
end Go.Proofs.YtoekiejipdabmaaDoor
namespace Go.Proofs.YtoekiejipdabmaaDoor
open Go.RowKit
theorem YB (W : World) (B : Nat) (hB : B ≤ W.heap.size) : Own (W.alloc (.cells #[] 53)) B 53 (.slice (some ⟨W.heap.size,0,none⟩) 0 0) []:=Own.new W B 53 [] hB (by simp)
def Fact.nilw (B : Nat) : Fact :=
  ⟨fun v W => ∃ g,v = .slice (some ⟨g,0,none⟩) 0 0 ∧ Own W B 53 v [],fun _ _ _ hb ⟨g,h1,h2⟩ => ⟨g,h1,h2.below hb (Nat.le_refl _)⟩⟩
theorem Row.rows15 {w : World} {B n : Nat} {A : Option Addr} {l : List Nat} (h : Row wordV w B A n l) : Row (fun u => u) w B A n (l.map wordV) :=
  ⟨by rw [List.length_map];exact h.len,fun hn => by
    obtain ⟨ad,e,hb,hc⟩:=h.cells hn
    exact ⟨ad,e,hb,fun k hk => by rw [hc k hk,List.getElem?_map];cases l[k]? <;> rfl⟩⟩
theorem LD {l : List Nat} : ∀ u ∈ l.map wordV,u.oneCell' = true:=fun u hu => by
  obtain ⟨x,_,rfl⟩:=List.mem_map.1 hu
  rfl
theorem uH {x : Nat} : ∀ u ∈ [wordV x],u.oneCell' = true:=fun u hu => by rw [List.mem_singleton.1 hu];rfl
def Fact.wset (B : Nat) (z : List Nat) (n : Nat) : Fact :=
  ⟨fun v W => ∃ x : Ws,v = x.v ∧ x.z = z ∧ x.len = n ∧ WsOwn W B x,fun _ _ _ hb ⟨x,h1,h2,h3,h4⟩ => ⟨x,h1,h2,h3,h4.below hb (Nat.le_refl _)⟩⟩
theorem yZ {W : World} {B n : Nat} {v : Value} {l : List Nat} (h : Own W B 53 v (l.map wordV)) (hu : ∀ y ∈ l,y < 4294967296) (hn : l.length = n) : ∃ x : Ws,v = x.v ∧ x.z = l ∧ x.len = n ∧ WsOwn W B x:=by
  obtain ⟨A,cap,rfl,_⟩:=h.readsN hn
  exact ⟨⟨A,n,cap,l⟩,rfl,rfl,rfl,⟨h,hu,hn⟩⟩
def Fact.secNew (K : Nat) : Fact :=
  ⟨fun v W => ∃ g,v = .pointer (some ⟨g,0,none⟩) ∧ Blk W g 56 (scC default) ∧ K ≤ g,fun _ _ _ hb ⟨g,h1,h2,h3⟩ => ⟨g,h1,h2.below hb h2.lt,h3⟩⟩
def GFact.elem15 (G : Nat → Prop) (e : TypeId) (cs : List Value) (K : Nat) : GFact G :=
  ⟨fun v W => ∃ gn,v = .slice (some ⟨gn,0,none⟩) 1 1 ∧ Blk W gn e cs ∧ ¬ G gn ∧ K ≤ gn,fun _ _ _ ho ⟨gn,h1,h2,h3,h4⟩ => ⟨gn,h1,ho.blk h2 h3,h3,h4⟩⟩
def Fact.elem15 (e : TypeId) (cs : List Value) : Fact :=
  ⟨fun v W => ∃ gn,v = .slice (some ⟨gn,0,none⟩) 1 1 ∧ Blk W gn e cs,fun _ _ _ hb ⟨gn,h1,h2⟩ => ⟨gn,h1,h2.below hb h2.lt⟩⟩
theorem y9 (w : World) (B : Nat) : WsOwn w B default:=⟨Own.nil _ _ _,(fun y hy => by cases hy),rfl⟩
theorem vH {w : World} {B g : Nat} {e t : TypeId} {v : Value} {xs cs : List Value} (h : Own w B e v xs) (hb : Blk w g t cs) (hne : e ≠ t) : v.ownBlock = none ∨ v.ownBlock ≠ some g:=by
  rcases h.2 with ⟨rfl,_⟩ | ⟨q,cap,cur,rfl,_,hg,_⟩
  · exact .inl rfl
  · refine .inr fun e1 => ?_
    injection e1 with e1
    have e1 : q = g:=e1
    subst e1
    unfold Blk at hb
    rw [hg] at hb
    injection hb with hb
    injection hb with _ hb _
    exact hne hb
theorem WsOwn.typed15 {w w' : World} {B g : Nat} {x : Ws} {cs : List Value} (h : WsOwn w B x) (hb : Blk w g 56 cs) (hg : w.grownBy w' (some g)) : WsOwn w' B x:=⟨h.own.far hg (vH h.own hb (by decide)),h.u32,h.len⟩
theorem SecOwn.typed15 {w w' : World} {B g : Nat} {x : Sc} {cs : List Value} (h : SecOwn w B x) (hb : Blk w g 56 cs) (hg : w.grownBy w' (some g)) : SecOwn w' B x:=⟨h.en,h.ex,h.held.typed15 hb hg,h.le,h.lx,h.live.typed15 hb hg⟩
theorem yN {w w1 w2 : World} {g h : Nat} (hg : w.grownBy w1 (some g)) (hh : w1.grownBy w2 (some h)) (hn : w.heap.size ≤ h) : w.grownBy w2 (some g) :=
  ⟨hh.os.trans hg.os,hh.tape.trans hg.tape,hh.output.trans hg.output,Nat.le_trans hg.size hh.size,fun k hk hne => (hh.block k (Nat.lt_of_lt_of_le hk hg.size) (fun e => by cases e;omega)).trans (hg.block k hk hne)⟩
theorem x8 : (Tryd.prog.info? 54).map (·.size) = some 1:=by kernel_rfl
theorem SecRow.far15 {w w' : World} {B g : Nat} {v : Value} {ls : List Sc} {cs : List Value} (h : SecRow w B v ls) (hg : w.grownBy w' (some g)) (hN : v.ownBlock = none ∨ v.ownBlock ≠ some g) (hb : Blk w g 56 cs) : SecRow w' B v ls :=
  ⟨h.row.far hg hN,fun x hx => (h.each x hx).typed15 hb hg⟩
theorem uR {l : List Nat} {k : Nat} (h : l.length ≤ k) : l.getD k 0 = 0:=by rw [List.getD_eq_getElem?_getD,List.getElem?_eq_none h];rfl
end Go.Proofs.YtoekiejipdabmaaDoor
namespace Go.Proofs.YtoekiejipdabmaaDoor
open Go.RowKit
namespace Ma
structure IsM (x y u : Sc) : Prop where
  le : u.le = x.le &&& y.le
  lx : u.lx = x.lx &&& y.lx
  live : ∀ k,u.live.z.getD k 0 = x.live.z.getD k 0 &&& y.live.z.getD k 0
  hlen : u.held.len = x.held.len
  llen : u.live.len = x.live.len
theorem qY {a a' b b' : Nat} (h : S.within a a' 32 = true) (h' : S.within b b' 32 = true) : S.within (a &&& b) (a' &&& b') 32 = true:=by
  refine (S.within_iff _ _).2 fun i hi hb => ?_
  rw [Nat.testBit_and,Bool.and_eq_true] at hb ⊢
  exact ⟨(S.within_iff _ _).1 h i hi hb.1,(S.within_iff _ _).1 h' i hi hb.2⟩
theorem XL (x y : Nat) (id : Int) : S.has (x &&& y) id = (S.has x id && S.has y id):=by
  unfold S.has
  rw [Nat.testBit_and]
  cases decide (0 ≤ id ∧ id ≤ 31) <;> simp
theorem XA {n : Nd} {x y ex ey : Nat} {lost : Int} {b : Bool} : S.within (behind n (x &&& y) (ex &&& ey) lost b) (behind n x ex lost b &&& behind n y ey lost b) 32 = true:=by
  refine (S.within_iff _ _).2 fun k hk hb => ?_
  rw [Nat.testBit_and,Bool.and_eq_true,behind_bit hk,behind_bit hk]
  rw [behind_bit hk] at hb
  by_cases h5 : n.kind = 5
  · rw [if_pos h5] at hb
    rw [if_pos h5,if_pos h5]
    rw [Nat.testBit_and,XL] at hb
    generalize x.testBit k = p1 at *
    generalize y.testBit k = p2 at *
    generalize ((k : Int) == n.alt) = p3 at *
    generalize ((k : Int) == lost) = p4 at *
    generalize S.has x n.alt = p5 at *
    generalize S.has y n.alt = p6 at *
    revert hb
    cases p1 <;> cases p2 <;> cases p3 <;> cases p4 <;> cases b <;> cases p5 <;> cases p6 <;> decide
  rw [if_neg h5] at hb
  rw [if_neg h5,if_neg h5]
  by_cases h6 : n.kind = 6
  · rw [if_pos h6] at hb
    rw [if_pos h6,if_pos h6]
    rw [Nat.testBit_and] at hb
    simp only [Bool.and_eq_true] at hb ⊢
    exact ⟨⟨hb.1.1,hb.2⟩,⟨hb.1.2,hb.2⟩⟩
  rw [if_neg h6] at hb
  rw [if_neg h6,if_neg h6]
  by_cases h7 : n.kind = 7
  · rw [if_pos h7] at hb
    rw [if_pos h7,if_pos h7]
    rwa [Nat.testBit_and,Bool.and_eq_true] at hb
  · rw [if_neg h7] at hb
    rw [if_neg h7,if_neg h7]
    rwa [Nat.testBit_and,Bool.and_eq_true] at hb
theorem check_meet {p : Pg} {bg : Nat} {a b l : List Sc} (ha : (check p bg a).2.2 = 0) (hb : (check p bg b).2.2 = 0) (hsh : Mu.shaped p l = true) (hu : ∀ f,f < p.len → IsM (Mu.sec a f) (Mu.sec b f) (Mu.sec l f))
    (hfit : ∀ f n,f < p.len → n ∈ (Mu.fn p f).nodes → n.kind = 7 ∨ n.kind = 5 → n.arg.toNat < p.len) : check p bg l = (0,0,0):=by
  obtain ⟨_,ha⟩:=check_fine ha
  obtain ⟨_,hb⟩:=check_fine hb
  refine check_none hsh fun f hf => func_fine.2 ?_
  obtain ⟨a2,a3⟩:=func_fine.1 (ha f hf)
  obtain ⟨b2,b3⟩:=func_fine.1 (hb f hf)
  have hU:=hu f hf
  refine ⟨?_,fun i hi => ?_⟩
  · rw [hU.live,hU.le];exact qY a2 b2
  · have ai:=a3 i hi
    have bi:=b3 i hi
    unfold at_ at ai bi ⊢
    have hnd : (Mu.fn p f).nodes[i]? = some ((Mu.fn p f).nodes.getD i default):=by rw [List.getD_eq_getElem?_getD,List.getElem?_eq_getElem hi];rfl
    generalize (Mu.fn p f).nodes.getD i default = n at *
    obtain ⟨p1,p2,p3,p4⟩:=node_zero.1 ai
    obtain ⟨q1,q2,q3,q4⟩:=node_zero.1 bi
    have hcall : n.kind = 7 ∨ n.kind = 5 → IsM (a.getD n.arg.toNat default) (b.getD n.arg.toNat default) (l.getD n.arg.toNat default):=fun h7 => hu _ (hfit f n hf (List.mem_of_getElem? hnd) h7)
    have hexit : exit_ l n = exit_ a n &&& exit_ b n:=by
      unfold exit_
      by_cases h7 : n.kind = 7
      · rw [if_pos h7,if_pos h7,if_pos h7,(hcall (.inl h7)).lx]
      · rw [if_neg h7,if_neg h7,if_neg h7];rfl
    refine node_zero.2 ⟨fun h7 => ?_,fun h9 => ?_,fun h5 => ?_,fun to ht => ?_⟩
    · rw [(hcall (.inl h7)).le,hU.live];exact qY (p1 h7) (q1 h7)
    · rw [hU.lx,hU.live];exact qY (p2 h9) (q2 h9)
    · rw [(hcall (.inr h5)).le,XL,p3 h5,q3 h5];rfl
    · rw [hU.live,hU.live]
      unfold beh
      rw [hexit]
      exact S.within_trans _ _ _ XA (qY (p4 to ht) (q4 to ht))
structure SecM (x : Sc) (n : Nat) : Prop where
  le : x.le = 511
  lx : x.lx = 511
  live : x.live.z = List.replicate n 511
  hlen : x.held.len = n
  llen : x.live.len = n
theorem JS (k : Nat) : (511 : Nat).testBit k = decide (k < 9):=by
  rw [show (511 : Nat) = 2 ^ 9 - 1 from rfl,Nat.testBit_two_pow_sub_one]
theorem xI {a b : Nat} (hb : b = 511) (h : ∀ k,k < 32 → a.testBit k = true → k < 9) : S.within a b 32 = true :=
  (S.within_iff _ _).2 fun k hk hbit => by rw [hb,JS,decide_eq_true_eq];exact h k hk hbit
theorem check_more {p : Pg} {bg : Nat} {ls : List Sc} (hf : Fine p) (hl : p.fns.length = p.len) (hok : ∀ (f : Nat) (fn : Fn),p.fns[f]? = some fn → fn.nodes.length = fn.len) (hsh : Mu.shaped p ls = true) (hz : ∀ f,f < p.len → SecM (Mu.sec ls f) (Mu.fn p f).len) : check p bg ls = (0,0,0):=by
  have at_ok : ∀ f k,f < p.len → k < (Mu.fn p f).len → (Mu.sec ls f).live.z.getD k 0 = 511:=fun f k hf hk => by
    rw [(hz f hf).live,List.getD_eq_getElem?_getD,List.getElem?_replicate,if_pos hk];rfl
  have lo : ∀ k,k < 32 → (511 : Nat).testBit k = true → k < 9:=fun k _ h => by rw [JS,decide_eq_true_eq] at h;exact h
  refine check_none hsh fun f hfl => func_fine.2 ?_
  have hfn : p.fns[f]? = some (Mu.fn p f):=by unfold Mu.fn;rw [List.getD_eq_getElem?_getD,List.getElem?_eq_getElem (by omega)];rfl
  have hlen:=hok f _ hfn
  have hpos:=M.fine_len hf hfn
  refine ⟨?_,fun i hi => ?_⟩
  · rw [(hz f hfl).le,at_ok f 0 hfl (by omega)];exact xI rfl lo
  · unfold at_
    have hnd : (Mu.fn p f).nodes[i]? = some ((Mu.fn p f).nodes.getD i default):=by rw [List.getD_eq_getElem?_getD,List.getElem?_eq_getElem hi];rfl
    generalize (Mu.fn p f).nodes.getD i default = n at *
    have hfit:=M.fit_of hf.counts (M.fine_node hf hfn hnd) hpos
    have hs:=hf.counts.s
    have harg:=hfit.arg
    rw [at_ok f i hfl (by omega)]
    refine node_zero.2 ⟨fun h7 => ?_,fun h9 => ?_,fun h5 => ?_,fun to ht => ?_⟩
    · have h1:=hz n.arg.toNat (by have:=hfit.call h7;omega)
      exact xI h1.le lo
    · exact xI (hz f hfl).lx lo
    · have h1:=hz n.arg.toNat (by have:=(hfit.spawn h5).1;omega)
      have h2 : (ls.getD n.arg.toNat default).le = 511:=h1.le
      rw [h2]
      obtain ⟨L,hL⟩ : ∃ L : Nat,p.s = (L : Int):=⟨p.s.toNat,by omega⟩
      rw [hL,S.has_in _ _ (by omega),JS,decide_eq_true_eq]
      omega
    · have hto : to.toNat < (Mu.fn p f).len:=by
        have h1:=hfit.next
        have h3:=hfit.alt
        unfold Q.succ at ht
        by_cases h9 : n.kind = 9
        · rw [if_pos h9] at ht;cases ht
        rw [if_neg h9] at ht
        have h2:=hfit.nextLt h9
        by_cases h8 : n.kind = 8
        · rw [if_pos h8] at ht
          have h4:=hfit.branch h8
          simp only [List.mem_cons,List.not_mem_nil,or_false] at ht
          rcases ht with rfl | rfl <;> omega
        · rw [if_neg h8] at ht
          simp only [List.mem_cons,List.not_mem_nil,or_false] at ht
          subst ht
          omega
      refine xI (at_ok f _ hfl hto) fun k hk hbit => ?_
      unfold beh at hbit
      rw [behind_bit hk] at hbit
      by_cases h5 : n.kind = 5
      · rw [if_pos h5] at hbit
        have ha:=(hfit.spawn h5).2
        simp only [Bool.or_eq_true,Bool.and_eq_true,beq_iff_eq] at hbit
        rcases hbit with (h1 | h1) | h1
        · exact lo k hk h1
        · omega
        · omega
      rw [if_neg h5] at hbit
      by_cases h6 : n.kind = 6
      · rw [if_pos h6,Bool.and_eq_true] at hbit
        exact lo k hk hbit.1
      rw [if_neg h6] at hbit
      by_cases h7 : n.kind = 7
      · rw [if_pos h7] at hbit
        unfold exit_ at hbit
        rw [if_pos h7] at hbit
        have h1:=hz n.arg.toNat (by have:=hfit.call h7;omega)
        have h2 : (ls.getD n.arg.toNat default).lx = 511:=h1.lx
        rw [h2] at hbit
        exact lo k hk hbit
      · rw [if_neg h7] at hbit
        exact lo k hk hbit
end Ma
def Fact.msec16 (B e x n : Nat) : Fact :=
  ⟨fun v W => ∃ xs : Sc,v = scA xs ∧ xs.le = e ∧ xs.lx = x ∧ xs.live = default ∧ xs.held.len = n ∧ SecOwn W B xs,fun _ _ _ hb ⟨xs,h1,h2,h3,h4,h5,h6⟩ => ⟨xs,h1,h2,h3,h4,h5,h6.below hb (Nat.le_refl _)⟩⟩
theorem sc_eta16 {xs : Sc} (h : xs.live = default) : scC xs = scC ⟨xs.en,xs.ex,xs.held,xs.le,xs.lx,default⟩:=by
  cases xs
  simp only at h
  subst h
  rfl
theorem zJ {w0 w w' : World} {g : Nat} {e : TypeId} {v v' : Value} {xs : List Value} (hg : w0.grownBy w (some g)) (ho : Own w w0.heap.size e v xs) (hh : Grew w w' v v') : w0.grownBy w' (some g):=by
  cases e1 : v.ownBlock with
  | none =>
    have h1:=hh.1
    rw [e1] at h1
    exact ⟨h1.os.trans hg.os,h1.tape.trans hg.tape,h1.output.trans hg.output,Nat.le_trans hg.size h1.size,fun k hk hne => (h1.block k (Nat.lt_of_lt_of_le hk hg.size) (fun e => by cases e)).trans (hg.block k hk hne)⟩
  | some h =>
    have h1:=hh.1
    rw [e1] at h1
    exact yN hg h1 (ho.block h e1).1
theorem uX {w w' : World} {B g : Nat} {t e : TypeId} {cs xs : List Value} {v v' : Value} (hk : Blk w g t cs) (ho : Own w B e v xs) (hne : e ≠ t) (hh : Grew w w' v v') : Blk w' g t cs :=
  hk.grown hh.1 (fun e1 => by
    rcases vH ho hk hne with h | h
    · rw [h] at e1;cases e1
    · exact h e1.symm)
def Apart16 (x y : Ws) : Prop:=∀ k,x.v.ownBlock = some k → y.v.ownBlock ≠ some k
theorem WsOwn.grew16 {w w' : World} {B : Nat} {x y : Ws} {v' : Value} (h : WsOwn w B y) (ha : Apart16 x y) (hh : Grew w w' x.v v') : WsOwn w' B y:=by
  refine ⟨h.own.far hh.1 ?_,h.u32,h.len⟩
  cases e : x.v.ownBlock with
  | none =>
    cases e2 : y.v.ownBlock with
    | none => exact .inl rfl
    | some k => right;simp
  | some k => exact .inr (ha k e)
theorem Apart16.grew {w w' : World} {B : Nat} {x y x' : Ws} (ha : Apart16 x y) (hy : WsOwn w B y) (hh : Grew w w' x.v x'.v) : Apart16 x' y:=by
  intro k hk hk2
  rcases hh.2 with h | h
  · exact ha k (by rw [← h];exact hk) hk2
  · have h1:=h k hk
    have h2:=(hy.own.block k hk2).2
    omega
theorem Apart16.symm {x y : Ws} (h : Apart16 x y) : Apart16 y x:=fun k h1 h2 => h k h2 h1
end Go.Proofs.YtoekiejipdabmaaDoor
