/- RaceCopy, ScriptP4, ScriptTwin, ScriptP5, ScriptP6. -/
import Derived.Test.YtcbfghcdbmlneaaPk16
import Derived.Test.YtcbfghcdbmlneaaPk8
import Derived.Test.YtcbfghcdbmlneaaPk18
import Derived.Test.YtcbfghcdbmlneaaPk9
import Derived.Test.YtcbfghcdbmlneaaPk19
import Derived.Test.YtcbfghcdbmlneaaPk3
namespace Go.Proofs.Ytcbfghcdbmlneaa
open Go.RowKit
def rdN (x : Nd) : Nd:=if x.kind = 2 then ⟨1,x.arg,x.next,x.alt⟩ else x
theorem rdN_yes {x : Nd} (h : x.kind = 2) : rdN x = ⟨1,x.arg,x.next,x.alt⟩:=if_pos h
theorem rdN_no {x : Nd} (h : ¬ x.kind = 2) : rdN x = x:=if_neg h
theorem YX {x : Nd} (h : x.kind = 7) : rdN x = x:=rdN_no (by omega)
theorem may_rd (g l s f : Int) (x : Nd) (n : Int) : Q.may g l s f (rdN x) n = Q.may g l s f x n:=by
  by_cases h2 : x.kind = 2
  · rw [rdN_yes h2]
    unfold Q.may
    have e : Q.row (1 : Int) = Q.row x.kind:=by rw [h2];rfl
    rw [show (⟨1,x.arg,x.next,x.alt⟩ : Nd).kind = 1 from rfl,e];rfl
  · rw [rdN_no h2]
structure CopyOf (p q : Pg) : Prop where
  g : q.g = p.g
  l : q.l = p.l
  s : q.s = p.s
  len : q.len = p.len
  fns : q.fns.map (·.nodes) = p.fns.map fun x => x.nodes.map rdN
section
variable {p q : Pg}
theorem CopyOf.length (h : CopyOf p q) : q.fns.length = p.fns.length:=by
  have e:=congrArg List.length h.fns
  rwa [List.length_map,List.length_map] at e
theorem CopyOf.fn (h : CopyOf p q) {j : Nat} {fn : Fn} (hf : p.fns[j]? = some fn) : ∃ fn',q.fns[j]? = some fn' ∧ fn'.nodes = fn.nodes.map rdN:=by
  have e:=congrArg (fun l => l[j]?) h.fns
  simp only [List.getElem?_map,hf,Option.map_some] at e
  cases hq : q.fns[j]? with
  | none => rw [hq] at e;cases e
  | some fn' => rw [hq] at e;exact ⟨fn',rfl,Option.some.inj e⟩
theorem CopyOf.fault (h : CopyOf p q) {fn fn' : Fn} (hn : fn'.nodes = fn.nodes.map rdN) : Q.fnFault q fn' = Q.fnFault p fn:=by
  have hb : Q.badNode q fn' = Q.badNode p fn:=by
    funext i
    unfold Q.badNode
    rw [hn,h.g,h.l,h.s,h.len,List.length_map]
    apply propext
    constructor
    · rintro ⟨nd,h1,h2⟩
      rw [List.getElem?_map] at h1
      cases hx : fn.nodes[i]? with
      | none => rw [hx] at h1;cases h1
      | some x =>
        rw [hx] at h1
        cases h1
        rw [may_rd] at h2
        exact ⟨x,rfl,h2⟩
    · rintro ⟨nd,h1,h2⟩
      exact ⟨rdN nd,by rw [List.getElem?_map,h1];rfl,by rw [may_rd];exact h2⟩
  unfold Q.fnFault
  rw [hb,hn,List.length_map]
theorem CopyOf.badFn (h : CopyOf p q) {j : Nat} (hb : Q.badFn p j) : Q.badFn q j:=by
  obtain ⟨fn,hf,h2⟩:=hb
  obtain ⟨fn',hf',hn⟩:=h.fn hf
  exact ⟨fn',hf',by rw [h.fault hn];exact h2⟩
theorem CopyOf.calls (h : CopyOf p q) {x y : Nat} (hc : Q.calls p x y) : Q.calls q x y:=by
  obtain ⟨fn,hf,nd,hm,h7,ha⟩:=hc
  obtain ⟨fn',hf',hn⟩:=h.fn hf
  refine ⟨fn',hf',nd,?_,h7,ha⟩
  rw [hn]
  exact List.mem_map.2 ⟨nd,hm,YX h7⟩
theorem CopyOf.reach (h : CopyOf p q) {n x y : Nat} (hr : Q.Reach (Q.calls p) n x y) : Q.Reach (Q.calls q) n x y:=by
  induction hr with
  | one h1 => exact .one (h.calls h1)
  | more h1 h2 _ ih => exact .more (h.calls h1) h2 ih
theorem CopyOf.badRound (h : CopyOf p q) {j : Nat} (hb : Q.badRound p j) : Q.badRound q j:=by
  obtain ⟨i,fn,nd,hf,hx,h7,k,ha,hk,hr⟩:=hb
  obtain ⟨fn',hf',hn⟩:=h.fn hf
  refine ⟨i,fn',nd,hf',by rw [hn,List.getElem?_map,hx];exact congrArg some (YX h7),h7,k,ha,by rw [h.length];exact hk,?_⟩
  rcases hr with hr | hr
  · exact .inl hr
  · exact .inr (by rw [h.length];exact h.reach hr)
end
def fnR (x : Fn) (_ : Nat) : Value:=fnV x
theorem fnR_one (x : Fn) (j : Nat) : (fnR x j).oneCell' = true:=rfl
theorem ndV_one (x : Nd) (j : Nat) : (ndV x j).oneCell' = true:=by unfold ndV;split <;> rfl
theorem recs_fns {w : World} {B n : Nat} {A : Option Addr} {l : List Fn} (h : Recs 1 fnR w B A n l) : Row fnV w B A n l :=
  ⟨h.len,fun h0 => by
    obtain ⟨ad,e,hb,hc⟩:=h.cells h0
    refine ⟨ad,e,hb,fun k hk => ?_⟩
    have hx : l[k]? = some (l[k]'(by rw [h.len];exact hk)):=List.getElem?_eq_getElem _
    have:=hc k _ hx 0 (by omega)
    rw [Nat.mul_one,Nat.add_zero] at this
    rw [this,hx];rfl⟩
structure FnsOwn (w : World) (B : Nat) (l : List Fn) : Prop where
  own : ∀ x ∈ l,OwnR 4 ndV w B 97 (fnV x) x.nodes
  ok : ∀ x ∈ l,∀ y ∈ x.nodes,y.Ok
section
variable {w w' : World} {B : Nat} {l : List Fn}
theorem FnsOwn.nil (w : World) (B : Nat) : FnsOwn w B []:=⟨(fun _ h => by cases h),(fun _ h => by cases h)⟩
theorem FnsOwn.below (h : FnsOwn w B l) (hb : Below w.heap.size w w') : FnsOwn w' B l:=⟨fun x hx => (h.own x hx).below hb (Nat.le_refl _),h.ok⟩
theorem FnsOwn.snoc (h : FnsOwn w B l) {x : Fn} (ho : OwnR 4 ndV w B 97 (fnV x) x.nodes) (hok : ∀ y ∈ x.nodes,y.Ok) : FnsOwn w B (l ++ [x]) :=
  ⟨fun y hy => by
    rcases List.mem_append.1 hy with h1 | h1
    · exact h.own y h1
    · rw [List.mem_singleton.1 h1];exact ho,fun y hy => by
    rcases List.mem_append.1 hy with h1 | h1
    · exact h.ok y h1
    · rw [List.mem_singleton.1 h1];exact hok⟩
theorem FnsOwn.fn (h : FnsOwn w B l) : ∀ x ∈ l,x.Ok w w.heap.size:=fun x hx => by
  have ho:=h.own x hx
  have h1:=ho.len_is
  refine ⟨⟨ho.recs,h.ok x hx⟩,h1.2.1,h1.2.2,fun hn => ?_⟩
  rcases ho.2 with ⟨h2,_⟩ | ⟨g,cap,cur,h2,_⟩
  · unfold fnV at h2;injection h2
  · unfold fnV at h2
    rw [hn] at h2
    injection h2 with h3
    cases h3
end
theorem pkV_one (x : Int × Bool) (j : Nat) : (pkV x j).oneCell' = true:=by unfold pkV;split <;> rfl
theorem node_info11 : (Try.prog.info? 97).map (fun i => (i.zero,i.size,i.bytes)) = some (some (.agg #[.int .i64 0,.int .i64 0,.int .i64 0,.int .i64 0]),4,32):=by kernel_rfl
theorem Y6 : (Try.prog.info? 88).map (fun i => (i.zero,i.size,i.bytes)) = some (some (.slice none 0 0),1,24):=by kernel_rfl
set_option maxRecDepth 100000 in
set_option maxHeartbeats 1600000 in
theorem LY (A : Option Addr) (n c : Nat) (l : List (Int × Bool)) (w : World) (hr : Recs 2 pkV w w.heap.size A n l) (hn : n ≤ 2000) :
    Calls Try.prog 47 #[.slice A n c] w fun e w' => ∃ v,e = .returned v ∧ OwnR 2 pkV w' w.heap.size 56 v l ∧ Below w.heap.size w w':=by
  have HR:=kp hr
  have hlen:=hr.len
  have HLen:=kp hlen
  clear hr hlen
  cases A with
  | none =>
    have hl : l = []:=by
      have h0 : n = 0:=by
        rcases Nat.eq_zero_or_pos n with h0 | h0
        · exact h0
        · obtain ⟨_,h,_⟩:=HR.out.cells h0;cases h
      exact List.eq_nil_of_length_eq_zero (by rw [HLen.out];exact h0)
    subst hl
    have hnil : (binOp .eql 22 (.slice none n c) (.slice none 0 0)).run Try.prog w = .ok (.bool true) w:=Lib.run_eql_slice_nil w _ _ none n c 0 0 Try.underlying22
    go_enter Try.func47,Try.ntmps47
    go_wp2
    go_ret
    exact ⟨_,rfl,OwnR.nil _ _ _ _ _,Below.refl _ _⟩
  | some ad =>
    have hnil : (binOp .eql 22 (.slice (some ad) n c) (.slice none 0 0)).run Try.prog w = .ok (.bool false) w:=Lib.run_eql_slice_nil w _ _ (some ad) n c 0 0 Try.underlying22
    go_enter Try.func47,Try.ntmps47
    have HB : Kept (Below w.heap.size w (w.alloc (.cells #[] 56))):=kp ((Below.refl _ _).alloc (Nat.le_refl _) _)
    have HE : Kept (OwnR 2 pkV (w.alloc (.cells #[] 56)) w.heap.size 56 (.slice (some ⟨w.heap.size,0,none⟩) 0 0) []):=kp (OwnR.empty _ _ _ _ _ (Nat.le_refl _))
    have HS : Kept (w.heap.size ≤ (w.alloc (.cells #[] 56)).heap.size):=kp HB.out.size
    go_wp2_with (at_builtin;go_must (refine q9 rfl (.tmp 5) (.tmp 6) 22 rfl w.heap.size 56 2 _ 16 Try.underlying22 X8 rfl (by omega) pkV pkV_one _ _ [] rfl HE.out (some ad) n c w.heap.size l rfl (HR.out.below HB.out) (by unfold maxLen;simp;omega) (by simp;omega) HS.out ?_);intro v' w' hown hgr;rw [List.nil_append] at hown;have HOw:=kp hown;have HBe:=kp (HB.out.grown hgr.1 HS.out (fun k e => by cases e;exact Nat.le_refl _));clear hown hgr)
    go_ret
    exact ⟨_,rfl,HOw.out,HBe.out⟩
set_option maxRecDepth 100000 in
set_option maxHeartbeats 1600000 in
theorem sc_cloneNd (A : Option Addr) (n c : Nat) (l : List Nd) (w : World) (hr : Recs 4 ndV w w.heap.size A n l) (hn : n ≤ 2000) :
    Calls Try.prog 100 #[.slice A n c] w fun e w' => ∃ v,e = .returned v ∧ OwnR 4 ndV w' w.heap.size 97 v l ∧ Below w.heap.size w w':=by
  have HR:=kp hr
  have hlen:=hr.len
  have HLen:=kp hlen
  clear hr hlen
  cases A with
  | none =>
    have hl : l = []:=by
      have h0 : n = 0:=by
        rcases Nat.eq_zero_or_pos n with h0 | h0
        · exact h0
        · obtain ⟨_,h,_⟩:=HR.out.cells h0;cases h
      exact List.eq_nil_of_length_eq_zero (by rw [HLen.out];exact h0)
    subst hl
    have hnil : (binOp .eql 88 (.slice none n c) (.slice none 0 0)).run Try.prog w = .ok (.bool true) w:=Lib.run_eql_slice_nil w _ _ none n c 0 0 Try.underlying88
    go_enter Try.func100,Try.ntmps100
    go_wp2
    go_ret
    exact ⟨_,rfl,OwnR.nil _ _ _ _ _,Below.refl _ _⟩
  | some ad =>
    have hnil : (binOp .eql 88 (.slice (some ad) n c) (.slice none 0 0)).run Try.prog w = .ok (.bool false) w:=Lib.run_eql_slice_nil w _ _ (some ad) n c 0 0 Try.underlying88
    go_enter Try.func100,Try.ntmps100
    have HB : Kept (Below w.heap.size w (w.alloc (.cells #[] 97))):=kp ((Below.refl _ _).alloc (Nat.le_refl _) _)
    have HE : Kept (OwnR 4 ndV (w.alloc (.cells #[] 97)) w.heap.size 97 (.slice (some ⟨w.heap.size,0,none⟩) 0 0) []):=kp (OwnR.empty _ _ _ _ _ (Nat.le_refl _))
    have HS : Kept (w.heap.size ≤ (w.alloc (.cells #[] 97)).heap.size):=kp HB.out.size
    go_wp2_with (at_builtin;go_must (refine q9 rfl (.tmp 5) (.tmp 6) 88 rfl w.heap.size 97 4 _ 32 Try.underlying88 node_info11 rfl (by omega) ndV ndV_one _ _ [] rfl HE.out (some ad) n c w.heap.size l rfl (HR.out.below HB.out) (by unfold maxLen;simp;omega) (by simp;omega) HS.out ?_);intro v' w' hown hgr;rw [List.nil_append] at hown;have HOw:=kp hown;have HBe:=kp (HB.out.grown hgr.1 HS.out (fun k e => by cases e;exact Nat.le_refl _));clear hown hgr)
    go_ret
    exact ⟨_,rfl,HOw.out,HBe.out⟩
set_option maxRecDepth 100000 in
set_option maxHeartbeats 1600000 in
theorem sc_cloneFn (A : Option Addr) (n c : Nat) (l : List Fn) (w : World) (hr : Recs 1 fnR w w.heap.size A n l) (hn : n ≤ 2000) :
    Calls Try.prog 99 #[.slice A n c] w fun e w' => ∃ v,e = .returned v ∧ OwnR 1 fnR w' w.heap.size 88 v l ∧ Below w.heap.size w w':=by
  have HR:=kp hr
  have hlen:=hr.len
  have HLen:=kp hlen
  clear hr hlen
  cases A with
  | none =>
    have hl : l = []:=by
      have h0 : n = 0:=by
        rcases Nat.eq_zero_or_pos n with h0 | h0
        · exact h0
        · obtain ⟨_,h,_⟩:=HR.out.cells h0;cases h
      exact List.eq_nil_of_length_eq_zero (by rw [HLen.out];exact h0)
    subst hl
    have hnil : (binOp .eql 44 (.slice none n c) (.slice none 0 0)).run Try.prog w = .ok (.bool true) w:=Lib.run_eql_slice_nil w _ _ none n c 0 0 Try.underlying44
    go_enter Try.func99,Try.ntmps99
    go_wp2
    go_ret
    exact ⟨_,rfl,OwnR.nil _ _ _ _ _,Below.refl _ _⟩
  | some ad =>
    have hnil : (binOp .eql 44 (.slice (some ad) n c) (.slice none 0 0)).run Try.prog w = .ok (.bool false) w:=Lib.run_eql_slice_nil w _ _ (some ad) n c 0 0 Try.underlying44
    go_enter Try.func99,Try.ntmps99
    have HB : Kept (Below w.heap.size w (w.alloc (.cells #[] 88))):=kp ((Below.refl _ _).alloc (Nat.le_refl _) _)
    have HE : Kept (OwnR 1 fnR (w.alloc (.cells #[] 88)) w.heap.size 88 (.slice (some ⟨w.heap.size,0,none⟩) 0 0) []):=kp (OwnR.empty _ _ _ _ _ (Nat.le_refl _))
    have HS : Kept (w.heap.size ≤ (w.alloc (.cells #[] 88)).heap.size):=kp HB.out.size
    go_wp2_with (at_builtin;go_must (refine q9 rfl (.tmp 5) (.tmp 6) 44 rfl w.heap.size 88 1 _ 24 Try.underlying44 Y6 rfl (by omega) fnR fnR_one _ _ [] rfl HE.out (some ad) n c w.heap.size l rfl (HR.out.below HB.out) (by unfold maxLen;simp;omega) (by simp;omega) HS.out ?_);intro v' w' hown hgr;rw [List.nil_append] at hown;have HOw:=kp hown;have HBe:=kp (HB.out.grown hgr.1 HS.out (fun k e => by cases e;exact Nat.le_refl _));clear hown hgr)
    go_ret
    exact ⟨_,rfl,HOw.out,HBe.out⟩
end Go.Proofs.Ytcbfghcdbmlneaa
namespace Go.Proofs.Ytcbfghcdbmlneaa
structure Twin (p q : Pg) : Prop where
  g : q.g = p.g
  l : q.l = p.l
  s : q.s = p.s
  len : q.len = p.len
  fns : q.fns.map (·.nodes) = p.fns.map (·.nodes)
section
variable {p q : Pg}
theorem Twin.refl (p : Pg) : Twin p p:=⟨rfl,rfl,rfl,rfl,rfl⟩
theorem Twin.symm (h : Twin p q) : Twin q p:=⟨h.g.symm,h.l.symm,h.s.symm,h.len.symm,h.fns.symm⟩
theorem Twin.length (h : Twin p q) : q.fns.length = p.fns.length:=by
  have e:=congrArg List.length h.fns
  rwa [List.length_map,List.length_map] at e
theorem Twin.fn (h : Twin p q) {j : Nat} {fn : Fn} (hf : p.fns[j]? = some fn) : ∃ fn',q.fns[j]? = some fn' ∧ fn'.nodes = fn.nodes:=by
  have e:=congrArg (fun l => l[j]?) h.fns
  simp only [List.getElem?_map,hf,Option.map_some] at e
  cases hq : q.fns[j]? with
  | none => rw [hq] at e;cases e
  | some fn' => rw [hq] at e;exact ⟨fn',rfl,Option.some.inj e⟩
theorem Twin.fault (h : Twin p q) {fn fn' : Fn} (hn : fn'.nodes = fn.nodes) : Q.fnFault q fn' = Q.fnFault p fn:=by
  have hb : Q.badNode q fn' = Q.badNode p fn:=by
    funext i
    unfold Q.badNode
    rw [hn,h.g,h.l,h.s,h.len]
  unfold Q.fnFault
  rw [hb,hn]
theorem Twin.badFn (h : Twin p q) {j : Nat} (hb : Q.badFn p j) : Q.badFn q j:=by
  obtain ⟨fn,hf,h2⟩:=hb
  obtain ⟨fn',hf',hn⟩:=h.fn hf
  exact ⟨fn',hf',by rw [h.fault hn];exact h2⟩
theorem Twin.calls (h : Twin p q) {x y : Nat} (hc : Q.calls p x y) : Q.calls q x y:=by
  obtain ⟨fn,hf,nd,hm,h7,ha⟩:=hc
  obtain ⟨fn',hf',hn⟩:=h.fn hf
  exact ⟨fn',hf',nd,by rw [hn];exact hm,h7,ha⟩
theorem Twin.reach (h : Twin p q) {n x y : Nat} (hr : Q.Reach (Q.calls p) n x y) : Q.Reach (Q.calls q) n x y:=by
  induction hr with
  | one h1 => exact .one (h.calls h1)
  | more h1 h2 _ ih => exact .more (h.calls h1) h2 ih
theorem Twin.badRound (h : Twin p q) {j : Nat} (hb : Q.badRound p j) : Q.badRound q j:=by
  obtain ⟨i,fn,nd,hf,hx,h7,k,ha,hk,hr⟩:=hb
  obtain ⟨fn',hf',hn⟩:=h.fn hf
  refine ⟨i,fn',nd,hf',by rw [hn];exact hx,h7,k,ha,by rw [h.length];exact hk,?_⟩
  rcases hr with hr | hr
  · exact .inl hr
  · exact .inr (by rw [h.length];exact h.reach hr)
theorem Twin.fine (h : Twin p q) (hf : Fine p) : Fine q:=by
  have hl:=h.length
  have hc:=hf.counts
  exact ⟨⟨by have:=hc.g;rw [← h.g] at this;exact this,by have:=hc.l;rw [← h.l] at this;exact this,by have:=hc.s;rw [← h.s] at this;exact this,by have:=hc.f;rw [← hl] at this;exact this⟩,
    fun j hj hb => hf.nodes j (by omega) (h.symm.badFn hb),fun j hj hb => hf.round j (by omega) (h.symm.badRound hb)⟩
theorem Twin.check (h : Twin p q) (hf : Fine p) : Q.check q = (0,0,0):=by
  have hq:=h.fine hf
  exact Q.check_fine hq.counts hq.nodes hq.round
theorem L5 (p : Pg) (x : Nat × Nat) : M.nodeAt p x = ((p.fns.map (·.nodes)).getD x.1 []).getD x.2 default:=by
  have e : (p.fns.getD x.1 default).nodes = (p.fns.map (·.nodes)).getD x.1 []:=by
    rw [List.getD_eq_getElem?_getD,List.getD_eq_getElem?_getD,List.getElem?_map]
    cases p.fns[x.1]? with
    | none => rfl
    | some f => rfl
  unfold M.nodeAt
  rw [e]
theorem Twin.nodeAt (h : Twin p q) : M.nodeAt q = M.nodeAt p:=by
  funext x
  rw [L5,L5,h.fns]
theorem Twin.node (h : Twin p q) : M.node q = M.node p:=by funext c t;unfold M.node;rw [h.nodeAt]
theorem Twin.enabled (h : Twin p q) : M.enabled q = M.enabled p:=by funext c t;unfold M.enabled M.enabledN;rw [h.node]
theorem Twin.step (h : Twin p q) : M.step q = M.step p:=by funext c t way;unfold M.step;rw [h.enabled,h.node]
theorem Twin.runTo (h : Twin p q) (z : List (Int × Bool)) (i : Nat) : runTo q z i = runTo p z i:=by unfold Go.Proofs.Ytcbfghcdbmlneaa.runTo;rw [h.step]
theorem Twin.acc (h : Twin p q) : M.acc q = M.acc p:=by funext c t;unfold M.acc;rw [h.node]
theorem Twin.pair (h : Twin p q) : M.pair q = M.pair p:=by funext c a b g;unfold M.pair;rw [h.acc]
end
end Go.Proofs.Ytcbfghcdbmlneaa
namespace Go.Proofs.Ytcbfghcdbmlneaa
open Go.RowKit
theorem FnsOwn.turn11 {w w' : World} {B : Nat} {l : List Fn} (h : FnsOwn w B l) {g : Nat} (hg : w.grownBy w' (some g)) (hB : g < B) : FnsOwn w' B l :=
  ⟨fun x hx => (h.own x hx).far hg (by
    cases hv : (fnV x).ownBlock with
    | none => exact .inl rfl
    | some b =>
      refine .inr fun e => ?_
      have h1:=((h.own x hx).block b hv).1
      injection e with e
      omega),h.ok⟩
theorem FnsOwn.less11 {w : World} {B B' : Nat} {l : List Fn} (h : FnsOwn w B l) (hB : B' ≤ B) : FnsOwn w B' l:=⟨fun x hx => (h.own x hx).less hB,h.ok⟩
theorem pg_zero11 : (Try.prog.info? 46).map (·.zero) = some (some (.agg [Value.int .i64 0,.int .i64 0,.int .i64 0,.slice none 0 0].toArray)):=by kernel_rfl
theorem X9 (p : Pg) : ∀ u ∈ pgC p,u.oneCell' = true:=by
  intro u hu
  simp only [pgC,List.mem_cons,List.not_mem_nil,or_false] at hu
  rcases hu with h | h | h | h <;> subst h <;> rfl
theorem size1n11 : (Try.prog.info? 88).map (·.size) = some 1:=by kernel_rfl
theorem size1nn11 : (Try.prog.info? 44).map (·.size) = some 1:=by kernel_rfl
def Fact.nodesN (B K : Nat) (l : List Nd) : Fact :=
  ⟨fun v W => OwnR 4 ndV W B 97 v l ∧ ∀ b,v.ownBlock = some b → K ≤ b,fun _ _ _ hb ⟨h1,h2⟩ => ⟨h1.below hb (Nat.le_refl _),h2⟩⟩
theorem cp_fns {W w7 : World} {B0 gF n cap i : Nat} {fns fns1 : List Fn} {x x' : Fn} {cur : List Value} (hr : OwnR 1 fnR W B0 88 (.slice (some ⟨gF,0,none⟩) n cap) (fns1 ++ fns.drop i)) (hx : fns[i]? = some x) (hl : fns1.length = i)
    (hb : Blk W gF 88 cur) (hb7 : Blk w7 gF 88 (cur.set i (fnV x'))) : OwnR 1 fnR w7 B0 88 (.slice (some ⟨gF,0,none⟩) n cap) ((fns1 ++ [x']) ++ fns.drop (i + 1)):=by
  have hi : i < fns.length:=(List.getElem?_eq_some_iff.1 hx).1
  have hd : fns.drop i = x :: fns.drop (i + 1):=by
    rw [List.drop_eq_getElem_cons hi]
    have : fns[i] = x:=by rw [List.getElem?_eq_getElem hi] at hx;exact Option.some.inj hx
    rw [this]
  have hk : (fns1 ++ fns.drop i)[i]? = some x:=by
    rw [List.getElem?_append_right (by omega),hl,Nat.sub_self,hd];rfl
  have h:=hr.set (k:=i) (j:=0) (x':=x') (v:=fnV x') hk (by omega) (fun j hj => by
    have : j = 0:=by omega
    subst this;rfl) hb (by rw [Nat.mul_one,Nat.add_zero]) hb7
  have e : (fns1 ++ fns.drop i).set i x' = (fns1 ++ [x']) ++ fns.drop (i + 1):=by
    rw [hd,List.set_append_right _ _ (by omega),hl,Nat.sub_self,List.set_cons_zero,List.append_assoc];rfl
  rw [e] at h
  exact h
def pgF (p : Pg) (gF n c : Nat) : List Value:=[.int .i64 p.g,.int .i64 p.l,.int .i64 p.s,.slice (some ⟨gF,0,none⟩) n c]
structure PgMine (w : World) (B : Nat) (q : Pg) : Prop where
  g : I64 q.g
  l : I64 q.l
  s : I64 q.s
  row : OwnR 1 fnR w B 88 (.slice q.A q.len q.cap) q.fns
  fns : FnsOwn w B q.fns
  nil : q.A = none → q.cap = 0
theorem PgMine.ok {w : World} {B : Nat} {q : Pg} (h : PgMine w B q) : q.Ok w w.heap.size :=
  ⟨h.g,h.l,h.s,recs_fns h.row.recs,h.fns.fn,h.row.len_is.2.1,h.row.len_is.2.2,h.nil⟩
theorem PgMine.below {w w' : World} {B : Nat} {q : Pg} (h : PgMine w B q) (hb : Below w.heap.size w w') : PgMine w' B q:=⟨h.g,h.l,h.s,h.row.below hb (Nat.le_refl _),h.fns.below hb,h.nil⟩
theorem PgMine.less {w : World} {B B' : Nat} {q : Pg} (h : PgMine w B q) (hB : B' ≤ B) : PgMine w B' q:=⟨h.g,h.l,h.s,h.row.less hB,h.fns.less11 hB,h.nil⟩
theorem PgMine.turn {w w' : World} {B g : Nat} {q : Pg} (h : PgMine w B q) (hg : w.grownBy w' (some g)) (hB : g < B) : PgMine w' B q :=
  ⟨h.g,h.l,h.s,h.row.far hg (by
    cases hv : (Value.slice q.A q.len q.cap).ownBlock with
    | none => exact .inl rfl
    | some b =>
      refine .inr fun e => ?_
      have h1:=(h.row.block b hv).1
      injection e with e
      omega),h.fns.turn11 hg hB,h.nil⟩
def CopyPost (p : Pg) (w : World) : Ending → World → Prop:=fun e w' => ∃ q : Pg,e = .returned (pgA q) ∧ Twin p q ∧ PgMine w' w.heap.size q ∧ Below w.heap.size w w'
set_option maxRecDepth 1000000 in
set_option maxHeartbeats 8000000 in
theorem sc_copied (B : Nat) (p : Pg) (w : World) (hp : p.Ok w B) (hf : Fine p) (hB : B ≤ w.heap.size) :
    Calls Try.prog 85 #[pgA p] w (CopyPost p w):=by
  obtain ⟨fns,hfn⟩ : ∃ fns,p.fns = fns:=⟨_,rfl⟩
  obtain ⟨n,hn⟩ : ∃ n,p.len = n:=⟨_,rfl⟩
  have HFn:=kp hfn;have HN:=kp hn
  have HL : Kept (fns.length = n):=kp (by rw [← hfn,← hn];exact hp.row.len)
  have h0 : 0 < n:=by have:=hf.counts.f.1;rw [hfn,HL.out] at this;exact this
  have h16 : n ≤ 16:=by have:=hf.counts.f.2;rw [hfn,HL.out] at this;exact this
  have HRow : Kept (Row fnV w B p.A n fns):=kp (by rw [← hfn,← hn];exact hp.row)
  have HOk : Kept (∀ f ∈ fns,f.Ok w B ∧ f.len ≤ 64):=kp (fun f hm => by
    rw [← hfn] at hm
    refine ⟨hp.fns f hm,?_⟩
    obtain ⟨j,hj⟩:=List.getElem?_of_mem hm
    have h1:=Q.fine_fn hj (hf.nodes j (List.getElem?_eq_some_iff.1 hj).1)
    have h2:=(hp.fns f hm).nodes.1.len
    omega)
  have HI : Kept (I64 p.g ∧ I64 p.l ∧ I64 p.s):=kp ⟨hp.g,hp.l,hp.s⟩
  have HE0 : Kept (pgC p = [.int .i64 p.g,.int .i64 p.l,.int .i64 p.s,.slice p.A n p.cap]):=kp (by unfold pgC;rw [hn])
  have HRec : Kept (Recs 1 fnR w B p.A n fns):=kp ⟨HL.out,fun h => by
    obtain ⟨ad,e,hb,hc⟩:=HRow.out.cells h
    refine ⟨ad,e,hb,fun k x hx j hj => ?_⟩
    have hj0 : j = 0:=by omega
    subst hj0
    have hk : k < n:=by rw [← HL.out];exact (List.getElem?_eq_some_iff.1 hx).1
    rw [Nat.mul_one,Nat.add_zero,hc k hk,hx];rfl⟩
  clear hp hf hfn hn
  rw [jL]
  go_enter Try.func85,Try.ntmps85
  go_wp2_with (first
    | ((with_reducible refine j6 rfl 46 (.tmp 0) rfl (pgC p) rfl ?_);intro gN w1 hgN0 hk1 hw1;have HK1:=kp hk1;have HW1:=kp hw1;have hs1:=hw1.size;have hl1:=hk1.lt;clear hk1 hw1)
    | ((with_reducible show Sl 2);go_must (refine j7 rfl 46 rfl _ pg_zero11 ?_);intro g2 w2 hg20 hk2 hw2
       have HK22:=kp hk2;have HK12:=kp (HK1.out.below hw2 hl1);have HW2:=kp (HW1.out.trans (hw2.mono hs1));have hs2:=HW2.out.size;have hl12:=HK12.out.lt;have hl2:=hk2.lt
       have hc0:=HK12.out.cell 3
       rw [HE0.out] at hc0
       have HRec2:=kp ((HRec.out.below (HW2.out.mono hB)).more (show B ≤ w2.heap.size by omega))
       clear hk2 hw2)
    | (go_at_call 99;fail))
  refine (sc_cloneFn p.A n p.cap fns w2 HRec2.out (by omega)).mono ?_
  rintro e w3 ⟨v3,rfl,hown3,hb3⟩
  obtain ⟨A3,c3,rfl,hl3,hm3,_⟩:=hown3.form
  rw [HL.out] at hown3 hl3 ⊢
  obtain ⟨gF,curT0,hA3,hbT3,hcT3,_,hgF3,_,_,_⟩:=hown3.blk h0
  subst hA3
  have HOw3:=kp (hown3.less (show w.heap.size ≤ w2.heap.size by omega));have hTl3:=hbT3.lt
  unfold maxLen at hm3
  have HNe : Kept (gF ≠ gN ∧ g2 ≠ gN ∧ gF ≠ g2 ∧ w.heap.size ≤ gN ∧ w.heap.size ≤ g2 ∧ w.heap.size ≤ gF):=kp (by omega)
  have HK13:=kp (HK12.out.below hb3 hl12);have HK23:=kp (HK22.out.below hb3 hl2);have HW3:=kp (HW2.out.trans (hb3.mono hs2));have hs3:=HW3.out.size;have hs23:=hb3.size
  have HGF : Kept (gF < w3.heap.size):=kp hTl3
  clear hown3 hb3 hc0 hbT3
  go_wp2_with (first
    | ((with_reducible show Sn);go_must (refine j9 rfl 44 (.tmp 7) (.tmp 6) rfl gN 3 (.slice (some ⟨gF,0,none⟩) n c3) rfl rfl rfl rfl _ _ HK13.out (by rw [HE0.out];show 3 < 4;decide) size1nn11 ?_);intro w4 hk4 hg4 hs4
       have HK4 : Kept (Blk w4 gN 46 (pgF p gF n c3)):=kp (by rw [HE0.out] at hk4;exact hk4)
       have HRow4:=kp (HOw3.out.far hg4 (.inr (fun e => by cases e;exact HNe.out.1 rfl)))
       have HK24:=kp (HK23.out.grown hg4 (fun e => by cases e;exact HNe.out.2.1 rfl))
       have HW4:=kp (HW3.out.grown hg4 HW3.out.size (fun k e => by cases e;exact HNe.out.2.2.2.1));have hs4':=HW4.out.size
       have HZ4 : Kept (w3.heap.size ≤ w4.heap.size):=kp (by omega)
       have hc0 : w4.cell? ⟨gN,3,none⟩ = some (.slice (some ⟨gF,0,none⟩) n c3):=HK4.out.cell 3
       clear hk4 hg4 hs4))
  go_loopw [11] (fun v11 wr => ∃ (i : Nat) (fns1 : List Fn),i ≤ n ∧ v11 = .int .i64 i ∧ fns1.length = i ∧ fns1.map (·.nodes) = (fns.take i).map (·.nodes) ∧ OwnR 1 fnR wr w.heap.size 88 (.slice (some ⟨gF,0,none⟩) n c3) (fns1 ++ fns.drop i) ∧
      FnsOwn wr w3.heap.size fns1 ∧ w3.heap.size ≤ wr.heap.size ∧ Blk wr gN 46 (pgF p gF n c3) ∧ Blk wr g2 46 [.int .i64 0,.int .i64 0,.int .i64 0,.slice none 0 0] ∧ Below w.heap.size w wr) (fun v11 _ => n - (intOf v11).toNat)
  case atStart => exact ⟨0,[],by omega,rfl,rfl,rfl,by simpa using HRow4.out,FnsOwn.nil _ _,HZ4.out,HK4.out,HK24.out,HW4.out⟩
  case round =>
    obtain ⟨i,fns1,hi,rfl,htl,htt,hrow,hfam,hsz3,hkN,hk2,hbl⟩:=hrel
    have HTl:=kp htl;have HTt:=kp htt;have HRow2:=kp hrow;have HFam:=kp hfam;have HK:=kp hkN;have HK2:=kp hk2;have HB:=kp hbl
    have hBs:=hbl.size
    have hgN:=hkN.lt;have hg2:=hk2.lt
    have hcN : wr.cell? ⟨gN,3,none⟩ = some (.slice (some ⟨gF,0,none⟩) n c3):=hkN.cell 3
    clear htl htt hrow hfam hkN hk2 hbl
    by_cases hlt : i < n
    · have hxi : fns[i]? = some (fns[i]'(by rw [HL.out];exact hlt)):=List.getElem?_eq_getElem _
      obtain ⟨x,hx⟩ : ∃ x,fns[i]'(by rw [HL.out];exact hlt) = x:=⟨_,rfl⟩
      rw [hx] at hxi
      have hxm:=List.mem_of_getElem? hxi
      have HX:=kp (HOk.out x hxm)
      have HXi:=kp hxi
      obtain ⟨gF2,curT,hAT,hbT,hcTl,hcTt,hBT,hnc,hcm,_⟩:=HRow2.out.blk h0
      have eT : gF = gF2:=by injection hAT with e;injection e
      subst eT
      have hk : (fns1 ++ fns.drop i)[i]? = some x:=by
        rw [List.getElem?_append_right (by rw [HTl.out];exact Nat.le_refl _),HTl.out,Nat.sub_self,List.getElem?_drop];exact hxi
      have hcx : curT[i]? = some (.slice x.A x.len x.cap):=by
        have h1:=lZ 1 fnR (fns1 ++ fns.drop i) i 0 _ hk (by omega)
        rw [← hcTt,List.getElem?_take] at h1
        split at h1
        · rw [Nat.mul_one,Nat.add_zero] at h1;exact h1
        · cases h1
      have HC0:=kp hcx;have HT:=kp hbT
      have hgT:=hbT.lt
      have hTlen : i < curT.length:=by rw [hcTl];omega
      have hTN : gF ≠ gN:=HNe.out.1
      have hT2 : gF ≠ g2:=HNe.out.2.2.1
      have hx64:=HX.out.2
      have HXl : Kept (x.nodes.length = x.len):=kp HX.out.1.nodes.1.len
      have hxlc:=HX.out.1.lc;have hxcm:=HX.out.1.cm
      unfold maxLen at hxcm hcm
      clear hxi hx hxm hk hcx hbT hcTt hAT hcTl
      go_wp2
      apply jH 10 (.is _ :: .is _ :: .is _ :: .is _ :: .is _ :: .is _ :: .is _ :: .is _ :: Fact.nodesN w3.heap.size wr.heap.size x.nodes :: .is _ :: [])
        [[],[(0,14)],[],[],[(3,17)],[],[(4,18),(5,19)],[(6,20)],[(7,21)],[(1,15),(2,16)],[(9,23),(8,22)]]
        [(0,14),(1,15),(2,16),(3,17),(4,18),(5,19),(6,20),(7,21),(8,22),(9,23)] (by kernel_rfl) (by kernel_rfl) (by kernel_rfl) (by kernel_rfl) (by kernel_rfl)
      case hob =>
        refine ⟨?o0,?o1,?o2,?o3,?o4,?o5,?o6,?o7,?o8,?o9,trivial⟩
        case o0 => intro W hW;change wpList _ _ _ _ _ _;go_wp2;exact j0 rfl rfl rfl
        case o1 =>
          intro W hW;rintro _ rfl;change wpList _ _ _ _ _ _
          have hc : W.cell? ⟨gN,3,none⟩ = some (.slice (some ⟨gF,0,none⟩) n c3):=((HK.out.below hW hgN).cell 3)
          go_wp2;exact j0 rfl rfl rfl
        case o2 => intro W hW;change wpList _ _ _ _ _ _;go_wp2;exact j0 rfl rfl rfl
        case o3 => intro W hW;change wpList _ _ _ _ _ _;go_wp2;exact j0 rfl rfl rfl
        case o4 =>
          intro W hW;rintro _ rfl;change wpList _ _ _ _ _ _
          have hc : W.cell? ⟨gN,3,none⟩ = some (.slice (some ⟨gF,0,none⟩) n c3):=((HK.out.below hW hgN).cell 3)
          go_wp2;exact j0 rfl rfl rfl
        case o5 => intro W hW;change wpList _ _ _ _ _ _;go_wp2;exact j0 rfl rfl rfl
        case o6 => intro W hW;rintro _ rfl;rintro _ rfl;change wpList _ _ _ _ _ _;go_wp2;exact j0 rfl rfl rfl
        case o7 =>
          intro W hW;rintro _ rfl;change wpList _ _ _ _ _ _
          have hc:=(HT.out.below hW hgT).cell i
          rw [HC0.out] at hc
          go_wp2;exact j0 rfl rfl rfl
        case o8 =>
          intro W hW;rintro _ rfl;change wpList _ _ _ _ _ _
          have hWs:=hW.size
          have HRw:=kp ((HX.out.1.nodes.1.below ((HB.out.trans (hW.mono hBs)).mono hB)).more (show B ≤ W.heap.size by omega))
          clear hW
          go_wp2_with fail
          refine (sc_cloneNd x.A x.len x.cap x.nodes W HRw.out (by omega)).mono ?_
          rintro e w2 ⟨v5,rfl,hown5,hb5⟩
          have HOw5:=kp (hown5.less (show w3.heap.size ≤ W.heap.size by omega));have HB5:=kp hb5;have HBk:=kp hown5.block
          clear hown5 hb5
          go_wp2
          exact jG rfl rfl rfl HB5.out ⟨HOw5.out,fun b hb => Nat.le_trans hWs (HBk.out b hb).1⟩
        case o9 => intro W hW;rintro _ rfl;rintro _ rfl;change wpList _ _ _ _ _ _;go_wp2;exact j0 rfl rfl rfl
      case hend =>
        intro W hW;rintro _ rfl;rintro _ rfl;rintro _ rfl;rintro _ rfl;rintro _ rfl;rintro _ rfl;rintro _ rfl;rintro _ rfl;rintro v5 ⟨hown5,hk5⟩;rintro _ rfl
        simp only [given,jJ,List.set,List.drop]
        obtain ⟨A5,c5,rfl,hl5,hm5,_⟩:=hown5.form
        rw [HXl.out] at hown5 hk5 hl5
        have HOw5:=kp hown5;have HK5:=kp hk5
        have HKw:=kp (HT.out.below hW hgT)
        have HNw:=kp (HK.out.below hW hgN)
        have HRw:=kp (HRow2.out.below hW (Nat.le_refl _))
        have HFw:=kp (HFam.out.below hW)
        have HK2w:=kp (HK2.out.below hW hg2)
        have HBw:=kp (HB.out.trans (hW.mono hBs))
        have hWs:=hW.size
        clear hW hown5 hk5 hl5
        rw [HXl.out]
        go_wp2_with (first
          | ((with_reducible show Sn);go_must (refine j9 rfl 88 (.tmp 23) (.tmp 22) rfl gF i (.slice A5 x.len c5) rfl rfl rfl rfl _ _ HKw.out hTlen size1n11 ?_);intro w7 hk7 hg7 hs7
             have HRow7:=kp (cp_fns (x':=⟨A5,x.len,c5,x.nodes⟩) HRw.out HXi.out HTl.out HKw.out hk7)
             have HFam7:=kp ((HFw.out.snoc (x:=⟨A5,x.len,c5,x.nodes⟩) HOw5.out HX.out.1.nodes.2).turn11 hg7 HGF.out)
             have HK7:=kp (HNw.out.grown hg7 (fun e => hTN (by cases e;rfl)))
             have HK27:=kp (HK2w.out.grown hg7 (fun e => hT2 (by cases e;rfl)))
             have HB7:=kp (HBw.out.grown hg7 (by omega) (fun k e => by cases e;exact hBT))
             have HZ7 : Kept (w3.heap.size ≤ w7.heap.size):=kp (by omega)
             clear hk7 hg7 hs7))
        go_roundw
        case rel => exact ⟨i + 1,fns1 ++ [⟨A5,x.len,c5,x.nodes⟩],by omega,by go_num,by rw [List.length_append,HTl.out];rfl,by rw [List.map_append,HTt.out,List.take_add_one,HXi.out,List.map_append];rfl,HRow7.out,HFam7.out,HZ7.out,HK7.out,HK27.out,HB7.out⟩
        case measure => simp [intOf];omega
    · have hie : i = n:=by omega
      have HRo : Kept (OwnR 1 fnR wr w.heap.size 88 (.slice (some ⟨gF,0,none⟩) n c3) fns1 ∧ fns1.map (·.nodes) = fns.map (·.nodes)):=kp (by
        have hd : fns.drop i = []:=List.drop_of_length_le (by rw [HL.out,hie];exact Nat.le_refl _)
        have h1:=HRow2.out
        rw [hd,List.append_nil] at h1
        have h2:=HTt.out
        rw [List.take_of_length_le (by rw [HL.out,hie];exact Nat.le_refl _)] at h2
        exact ⟨h1,h2⟩)
      have hge : n ≤ i:=by omega
      clear hlt hie
      go_wp2_with (first
        | ((with_reducible show Sl 25);go_must (refine j4 rfl 46 (.tmp 1) rfl gN rfl _ (pgF p gF n c3) _ HK.out Try.underlying46 rfl jF ?_))
        | ((with_reducible show Sn);go_must (refine j5 rfl 46 (.tmp 2) (.tmp 25) rfl g2 (pgF p gF n c3) rfl rfl _ _ HK2.out jF rfl (X9 ⟨p.g,p.l,p.s,some ⟨gF,0,none⟩,n,c3,[]⟩) ?_);intro w8 hk8 hg8 hs8
           have HK8:=kp hk8
           have HRo8:=kp (HRo.out.1.far hg8 (.inr (fun e => by cases e;exact HNe.out.2.2.1 rfl)))
           have HFa8:=kp (FnsOwn.turn11 HFam.out hg8 (by omega))
           have HB8:=kp (HB.out.grown hg8 HB.out.size (fun k e => by cases e;exact HNe.out.2.2.2.2.1))
           clear hk8 hg8 hs8)
        | ((with_reducible show bodyPost _ _ _ _ _ _)
           refine bodyPost_ret (jP (P:=Try.prog) (fn:=Try.f85) rfl _ _ g2 46 _ _ rfl HK8.out Try.underlying46 rfl jF) rfl ⟨⟨p.g,p.l,p.s,some ⟨gF,0,none⟩,n,c3,fns1⟩,rfl,⟨rfl,rfl,rfl,HN.out.symm,by rw [HFn.out];exact HRo.out.2⟩,⟨HI.out.1,HI.out.2.1,HI.out.2.2,HRo8.out,HFa8.out.less11 (by omega),(fun h => by cases h)⟩,HB8.out⟩))
theorem JY (a : Act) (v : Value) : a.put none v = a:=rfl
def Fact.twin (K : Nat) (p : Pg) : Fact:=⟨fun v W => ∃ q : Pg,v = pgA q ∧ Twin p q ∧ PgMine W K q,fun _ _ _ hb ⟨q,h1,h2,h3⟩ => ⟨q,h1,h2,h3.below hb⟩⟩
def Fact.picks (K n : Nat) (z : List (Int × Bool)) : Fact:=⟨fun v W => ∃ A c,v = .slice A n c ∧ (n ≤ c ∧ c ≤ maxLen) ∧ OwnR 2 pkV W K 56 v z,fun _ _ _ hb ⟨A,c,h1,h2,h3⟩ => ⟨A,c,h1,h2,h3.below hb (Nat.le_refl _)⟩⟩
theorem OwnR.turn11 {α : Type} {sz : Nat} {f : α → Nat → Value} {w w' : World} {B g : Nat} {e : TypeId} {v : Value} {l : List α} (h : OwnR sz f w B e v l) (hg : w.grownBy w' (some g)) (hB : g < B) : OwnR sz f w' B e v l :=
  h.far hg (by
    cases hv : v.ownBlock with
    | none => exact .inl rfl
    | some b =>
      refine .inr fun e => ?_
      have h1:=(h.block b hv).1
      injection e with e
      omega)
theorem picks_size : (Try.prog.info? 22).map (·.size) = some 1:=by kernel_rfl
theorem OwnR.put11 {α : Type} {sz : Nat} {f : α → Nat → Value} {w : World} {B l : Nat} {e : TypeId} {v : Value} {xs : List α} (h : OwnR sz f w B e v xs) {o0 : Obj} (o : Obj) (hl : w.heap[l]? = some o0) (hc : o0.isCells = false) : OwnR sz f (w.putObj l o) B e v xs :=
  h.far (grownBy_putObj' w l o) (by
    rcases h.2 with ⟨rfl,_⟩ | ⟨g,cap,cur,rfl,_,hg,_⟩
    · exact .inl rfl
    · refine .inr fun e => ?_
      have e1 : g = l:=by have h2 : some g = some l:=e;injection h2
      subst e1
      rw [hl] at hg
      have h2:=Option.some.inj hg
      rw [h2] at hc
      simp [Obj.isCells] at hc)
theorem Blk.notObj {w : World} {g l : Nat} {t : TypeId} {cs : List Value} {o : Obj} (h : Blk w g t cs) (hl : w.heap[l]? = some o) (hc : o.isCells = false) : g ≠ l:=by
  intro e
  subst e
  unfold Blk at h
  rw [hl] at h
  have h2:=Option.some.inj h
  rw [h2] at hc
  simp [Obj.isCells] at hc
theorem Blk.twoNe {w : World} {g g2 : Nat} {t t2 : TypeId} {cs cs2 : List Value} (h : Blk w g t cs) (h2 : Blk w g2 t2 cs2) (hne : t ≠ t2) : g ≠ g2:=by
  intro e
  subst e
  unfold Blk at h h2
  rw [h] at h2
  injection h2 with h2
  injection h2 with _ h3
  exact hne h3
structure SrcMine (W : World) (L gP gL : Nat) (pg : Pg) (A : Option Addr) (n c : Nat) (z : List (Int × Bool)) : Prop where
  pb : Blk W gP 46 (pgC pg)
  lb : Blk W gL 22 [.slice A n c]
  ok : PgMine W L pg
  pk : OwnR 2 pkV W L 56 (.slice A n c) z
  i64 : ∀ x ∈ z,I64 x.1
  lo : L ≤ gP ∧ L ≤ gL
section
variable {W W' : World} {L gP gL : Nat} {pg : Pg} {A : Option Addr} {n c : Nat} {z : List (Int × Bool)}
theorem SrcMine.src (h : SrcMine W L gP gL pg A n c z) : Src W W.heap.size gP gL pg A n c z:=⟨h.pb,h.lb,h.ok.ok,⟨h.pk.recs,h.i64⟩,h.pb.lt,h.lb.lt⟩
theorem SrcMine.below (h : SrcMine W L gP gL pg A n c z) (hb : Below W.heap.size W W') : SrcMine W' L gP gL pg A n c z:=⟨h.pb.below hb h.pb.lt,h.lb.below hb h.lb.lt,h.ok.below hb,h.pk.below hb (Nat.le_refl _),h.i64,h.lo⟩
theorem SrcMine.turn (h : SrcMine W L gP gL pg A n c z) {g : Nat} (hg : W.grownBy W' (some g)) (hL : g < L) : SrcMine W' L gP gL pg A n c z:=by
  have h1:=h.lo
  exact ⟨h.pb.grown hg (fun e => by cases e;omega),h.lb.grown hg (fun e => by cases e;omega),h.ok.turn hg hL,h.pk.turn11 hg hL,h.i64,h.lo⟩
theorem SrcMine.put (h : SrcMine W L gP gL pg A n c z) {l : Nat} {o0 : Obj} (o : Obj) (hl : W.heap[l]? = some o0) (hc : o0.isCells = false) : SrcMine (W.putObj l o) L gP gL pg A n c z :=
  ⟨h.pb.put o (h.pb.notObj hl hc),h.lb.put o (h.lb.notObj hl hc),⟨h.ok.g,h.ok.l,h.ok.s,h.ok.row.put11 o hl hc,⟨fun x hx => (h.ok.fns.own x hx).put11 o hl hc,h.ok.fns.ok⟩,h.ok.nil⟩,h.pk.put11 o hl hc,h.i64,h.lo⟩
theorem OwnR.conf11 {α : Type} {sz : Nat} {f : α → Nat → Value} {B g : Nat} {e : TypeId} {v : Value} {l : List α} {cs : List Value} (h : OwnR sz f W B e v l) (hk : Blk W g 91 cs) (hne : e ≠ 91) (hg : W.grownBy W' (some g)) : OwnR sz f W' B e v l :=
  h.far hg (by
    cases hv : v.ownBlock with
    | none => exact .inl rfl
    | some b =>
      refine .inr fun e => ?_
      injection e with e
      subst e
      exact h.typed hk hne hv)
theorem SrcMine.conf (h : SrcMine W L gP gL pg A n c z) {g : Nat} {cs : List Value} (hk : Blk W g 91 cs) (hg : W.grownBy W' (some g)) : SrcMine W' L gP gL pg A n c z :=
  ⟨h.pb.grown hg (fun e => h.pb.twoNe hk (by decide) (by cases e;rfl)),h.lb.grown hg (fun e => h.lb.twoNe hk (by decide) (by cases e;rfl)),⟨h.ok.g,h.ok.l,h.ok.s,h.ok.row.conf11 hk (by decide) hg,⟨fun x hx => (h.ok.fns.own x hx).conf11 hk (by decide) hg,h.ok.fns.ok⟩,h.ok.nil⟩,h.pk.conf11 hk (by decide) hg,h.i64,h.lo⟩
end
def AlongPost (p : Pg) (n : Nat) (z : List (Int × Bool)) (cc : Nat) (w : World) : Ending → World → Prop:=fun e w' =>
  (cc ≠ 0 ∧ e = .returned (.func (.func 84) #[] #[]) ∨
   cc = 0 ∧ ∃ (gP gL : Nat) (q : Pg) (A : Option Addr) (c : Nat),e = .returned (.func (.func 86) #[] #[.pointer (some ⟨gP,0,none⟩),.pointer (some ⟨gL,0,none⟩)]) ∧ Twin p q ∧ SrcMine w' w.heap.size gP gL q A n c z ∧ (n ≤ c ∧ c ≤ maxLen)) ∧ Below w.heap.size w w'
set_option maxRecDepth 1000000 in
set_option maxHeartbeats 8000000 in
theorem sc_along (B : Nat) (p : Pg) (A : Option Addr) (n c : Nat) (z : List (Int × Bool)) (w : World) (hp : p.Ok w B) (hz : Picks w B A n z) (hn : n ≤ 2000) (hB : B ≤ w.heap.size) (ca cb : Int) (cc : Nat) (hc : Q.check p = (ca,cb,cc)) :
    Calls Try.prog 64 #[pgA p,.slice A n c] w (AlongPost p n z cc w):=by
  have HP:=kp hp;have HZ:=kp hz;have HC:=kp hc
  clear hp hz hc
  rw [jL]
  go_enter Try.func64,Try.ntmps64
  go_wp2_with (first
    | ((with_reducible refine j6 rfl 46 (.tmp 0) rfl (pgC p) rfl ?_);intro gP w1 hgP hk1 hw1;have HKp1:=kp hk1;have HGP:=kp hgP;have HW1:=kp hw1;have hs1:=hw1.size;have hl1:=hk1.lt;clear hk1 hw1 hgP)
    | ((with_reducible show Sl 3);go_must (refine LN rfl 22 (.tmp 1) rfl (.slice A n c) rfl rfl ?_);intro gL w2 hgL hk2 hw2;have HKl2:=kp hk2;have HGL : Kept (w.heap.size ≤ gL ∧ gL ≠ gP):=kp ⟨by omega,by omega⟩;have HKp2:=kp (HKp1.out.below hw2 hl1);have HW2:=kp (HW1.out.trans (hw2.mono hs1));have hs2:=HW2.out.size;have hlp2:=HKp2.out.lt;have hll2:=hk2.lt;clear hk2 hw2 hgL)
    | ((with_reducible show Sl 8);go_must (refine j4 rfl 46 (.tmp 2) rfl gP rfl _ (pgC p) _ HKp2.out Try.underlying46 rfl jF ?_))
    | (go_at_call 51;fail))
  refine (y7 B p w2 (HP.out.below (HW2.out.mono hB)) (by omega) ca cb cc HC.out).mono ?_
  unfold StartPost2
  rintro e w3 ⟨q0,rfl,_,_,_,h16,hb3⟩
  have H017:=kp (jW h16);have HW3:=kp (HW2.out.trans (hb3.mono hs2));have hs3:=HW3.out.size;have HKp3:=kp (HKp2.out.below hb3 hlp2);have HKl3:=kp (HKl2.out.below hb3 hll2);have hlp3:=HKp3.out.lt;have hll3:=HKl3.out.lt
  clear h16 hb3
  by_cases hz0 : cc = 0
  · subst hz0
    have HF:=kp (xT HC.out)
    go_wp2_with (first
      | ((with_reducible show Sl 5);go_must (refine j7 rfl 91 rfl _ l7 ?_);intro gC w4 hgC hk4 hb4;have HKc:=kp hk4;have HGC : Kept (w.heap.size ≤ gC ∧ gC ≠ gP ∧ gC ≠ gL):=kp ⟨by omega,by omega,by omega⟩;have HW4:=kp (HW3.out.trans (hb4.mono hs3));have hs4:=HW4.out.size;have HKp4:=kp (HKp3.out.below hb4 hlp3);have HKl4:=kp (HKl3.out.below hb4 hll3);clear hk4 hb4 hgC)
      | ((with_reducible show Sn);(refine j5 rfl 91 (.tmp 5) (.tmp 10) rfl gC (pcC q0) rfl rfl _ _ HKc.out (by rw [H017.out];exact jC) (by rw [H017.out];rfl) (jX q0) ?_);intro w5 hk5 hg5 hz5
         have HW5:=kp (HW4.out.grown hg5 hs4 (fun k e => by cases e;exact HGC.out.1));have hs5:=HW5.out.size
         have HKp5:=kp (HKp4.out.grown hg5 (fun e => by cases e;exact HGC.out.2.1 rfl));have HKl5:=kp (HKl4.out.grown hg5 (fun e => by cases e;exact HGC.out.2.2 rfl));have hlp5:=HKp5.out.lt;have hll5:=HKl5.out.lt
         clear hk5 hg5 hz5))
    apply jH 4 (.is (.agg (pgC p).toArray) :: Fact.twin w5.heap.size p :: .is (.slice A n c) :: Fact.picks w5.heap.size n z :: [])
      [[],[(0,14)],[],[(2,16)],[(1,15)],[(3,17)]]
      [(0,14),(1,15),(2,16),(3,17)] (by kernel_rfl) (by kernel_rfl) (by kernel_rfl) (by kernel_rfl) (by kernel_rfl)
    case hob =>
      refine ⟨?o0,?o1,?o2,?o3,trivial⟩
      case o0 =>
        intro W hW;change wpList _ _ _ _ _ _
        go_must (refine j4 rfl 46 (.tmp 2) rfl gP rfl _ (pgC p) _ (HKp5.out.below hW hlp5) Try.underlying46 rfl jF ?_)
        go_wp2;exact j0 rfl rfl rfl
      case o1 =>
        intro W hW;rintro _ rfl;change wpList _ _ _ _ _ _
        have hsW:=hW.size
        go_wp2_with fail
        refine (sc_copied B p W (HP.out.below ((HW5.out.trans (hW.mono hs5)).mono hB)) HF.out (by omega)).mono ?_
        unfold CopyPost
        rintro e w6 ⟨q,rfl,ht,hok,hb6⟩
        have HT:=kp ht;have HO:=kp (hok.less hsW);have HB6:=kp hb6
        clear ht hok hb6
        go_wp2
        exact jG rfl rfl rfl HB6.out ⟨q,rfl,HT.out,HO.out⟩
      case o2 =>
        intro W hW;change wpList _ _ _ _ _ _
        have hc : W.cell? ⟨gL,0,none⟩ = some (.slice A n c):=(HKl5.out.below hW hll5).cell 0
        go_wp2;exact j0 rfl rfl rfl
      case o3 =>
        intro W hW;rintro _ rfl;change wpList _ _ _ _ _ _
        have hsW:=hW.size
        have HRz:=kp ((HZ.out.1.below ((HW5.out.trans (hW.mono hs5)).mono hB)).more (show B ≤ W.heap.size by omega))
        go_wp2_with fail
        refine (LY A n c z W HRz.out hn).mono ?_
        rintro e w6 ⟨v,rfl,hown,hb6⟩
        obtain ⟨A6,c6,rfl,h1,h2,h3⟩:=hown.form
        have hzl:=HZ.out.1.len
        rw [hzl] at h1 h3 hown ⊢
        have HO:=kp (hown.less hsW);have HB6:=kp hb6;have HCc:=kp (And.intro h1 h2)
        clear hown h1 h2 h3 hb6 hzl
        go_wp2
        exact jG rfl rfl rfl HB6.out ⟨A6,c6,rfl,HCc.out,HO.out⟩
    case hend =>
      intro W hW;rintro _ rfl;rintro _ ⟨q,rfl,ht,hok⟩;rintro _ rfl;rintro _ ⟨A6,c6,rfl,hcc,hpk⟩
      simp only [given,jJ,List.set,List.drop]
      have hsW:=hW.size
      have HT:=kp ht;have HO:=kp hok;have HCc:=kp hcc;have HPk:=kp hpk;have HKp6:=kp (HKp5.out.below hW hlp5);have HKl6:=kp (HKl5.out.below hW hll5);have HW6:=kp (HW5.out.trans (hW.mono hs5));have hs6:=HW6.out.size
      clear hW ht hok hcc hpk
      have HLt : Kept (gP < w5.heap.size ∧ gL < w5.heap.size):=kp ⟨hlp5,hll5⟩
      refine j5 rfl 46 (.tmp 2) (.tmp 15) rfl gP (pgC q) rfl rfl _ _ HKp6.out jF rfl (X9 q) ?_
      intro w7 hk7 hg7 hz7
      have HKp7:=kp hk7;have HKl7:=kp (HKl6.out.grown hg7 (fun e => by cases e;exact HGL.out.2 rfl));have HO7:=kp (HO.out.turn hg7 HLt.out.1);have HPk7:=kp (HPk.out.turn11 hg7 HLt.out.1);have HW7:=kp (HW6.out.grown hg7 hs6 (fun k e => by cases e;exact HGP.out));have hs7:=HW7.out.size
      clear hk7 hg7 hz7
      simp only [JY]
      refine j9 rfl 22 (.tmp 3) (.tmp 17) rfl gL 0 (.slice A6 n c6) rfl rfl rfl rfl _ _ HKl7.out (by show 0 < 1;decide) picks_size ?_
      intro w8 hk8 hg8 hz8
      have HKl8 : Kept (Blk w8 gL 22 [.slice A6 n c6]):=kp hk8
      have HKp8:=kp (HKp7.out.grown hg8 (fun e => by cases e;exact HGL.out.2 rfl));have HO8:=kp (HO7.out.turn hg8 HLt.out.2);have HPk8:=kp (HPk7.out.turn11 hg8 HLt.out.2);have HW8:=kp (HW7.out.grown hg8 hs7 (fun k e => by cases e;exact HGL.out.1))
      clear hk8 hg8 hz8
      simp only [JY]
      go_wp2
      go_ret
      exact ⟨.inr ⟨rfl,gP,gL,q,A6,c6,rfl,HT.out,⟨HKp8.out,HKl8.out,HO8.out.less hs5,OwnR.less HPk8.out hs5,HZ.out.2,HGP.out,HGL.out.1⟩,HCc.out⟩,HW8.out⟩
  · have HZ0:=kp hz0
    have hb0 : ((cc : Int) != 0) = true:=by simpa using hz0
    clear hz0
    go_wp2_with (first
      | ((with_reducible show Sl 5);go_must (refine j7 rfl 91 rfl _ l7 ?_);intro gC w4 hgC hk4 hb4;have HKc:=kp hk4;have HGC : Kept (w.heap.size ≤ gC):=kp (by omega);have HW4:=kp (HW3.out.trans (hb4.mono hs3));have hs4:=HW4.out.size;clear hk4 hb4 hgC)
      | ((with_reducible show Sn);(refine j5 rfl 91 (.tmp 5) (.tmp 10) rfl gC (pcC q0) rfl rfl _ _ HKc.out (by rw [H017.out];exact jC) (by rw [H017.out];rfl) (jX q0) ?_);intro w5 hk5 hg5 hz5
         have HW5:=kp (HW4.out.grown hg5 hs4 (fun k e => by cases e;exact HGC.out))
         clear hk5 hg5 hz5))
    go_ret
    exact ⟨.inl ⟨HZ0.out,rfl⟩,HW5.out⟩
end Go.Proofs.Ytcbfghcdbmlneaa
