/- KillP3, SemMath. -/
import Derived.Test.YtlgaefenhfmjfaaDoorKillP2
import Derived.Test.YtlgaefenhfmjfaaDoorPu4
namespace Go.Proofs.YtlgaefenhfmjfaaDoor
open Go.RowKit
set_option maxRecDepth 100000 in
set_option maxHeartbeats 800000 in
theorem zH (B : Nat) (p : Pg) (w : World) (hp : p.Ok w B) (hB : B ≤ w.heap.size) (hs : Q.small p = true) (ht : Tab w) (c0 c1 : Int) (c : Nat) (hc : Q.check p = (c0,c1,c)) (us : List Nat) (hus : killA p 4 4 c = us) :
    Calls Tryd.prog 18 #[pgA p] w fun e w' => ∃ v,e = .returned (.tuple #[v,.int .i64 (c : Int)]) ∧ Own w' w.heap.size 51 v (us.map wordV) ∧ Below w.heap.size w w':=by
  have HP:=kp hp;have HS:=kp hs;have HT:=kp ht;have HC:=kp hc;have HU:=kp hus
  have hw1:=ht.size
  clear hp hs ht hc hus
  rw [jT]
  go_enter Tryd.func18,Tryd.ntmps18
  go_wp2_with (first
    | ((with_reducible refine j4 rfl 24 (.tmp 0) rfl (pgC p) rfl ?_);intro g1 w1 hg1 hk1 hw1;obtain ⟨hc0,hc1,hc2,hc3⟩:=j8 hk1;have HW1:=kp hw1;have hs1:=hw1.size;clear hg1 hk1 hw1)
    | (go_at_call 35;go_must (refine (vB B p w1 (HP.out.below (HW1.out.mono hB)) (Nat.le_trans hB hs1) HS.out (HT.out.below HW1.out hw1) c0 c1 c HC.out 36 4 4 ⟨rfl,rfl,rfl⟩ us HU.out).mono ?_);rintro e w2 ⟨v,rfl,hown,hb2⟩
       have HO:=kp hown;have HW2:=kp (HW1.out.trans (hb2.mono hs1));clear hown hb2))
  go_ret2
  exact ⟨v,rfl,HO.out.less hs1,HW2.out⟩
end Go.Proofs.YtlgaefenhfmjfaaDoor
namespace Go.Proofs.YtlgaefenhfmjfaaDoor.M
structure Th where
  stack : List (Nat × Nat)
  slots : List Nat
instance : Inhabited Th:=⟨⟨[],[]⟩⟩
structure Cf where
  ths : List Th
  owners : List Nat
def start : Cf:=⟨[⟨[(0,0)],List.replicate 8 0⟩],List.replicate 16 0⟩
def th (c : Cf) (t : Nat) : Th:=c.ths.getD t default
def livesN (c : Cf) (t : Nat) : Bool:=decide (0 < (th c t).stack.length)
def lives (c : Cf) (t : Int) : Bool:=decide (0 ≤ t) && livesN c t.toNat
def top (s : List (Nat × Nat)) : Nat × Nat:=s.getD (s.length - 1) (0,0)
def nodeAt (p : Pg) (x : Nat × Nat) : Nd:=(p.fns.getD x.1 default).nodes.getD x.2 default
def node (p : Pg) (c : Cf) (t : Nat) : Nd:=nodeAt p (top (th c t).stack)
def enabledN (p : Pg) (c : Cf) (t : Nat) : Bool :=
  livesN c t &&
    (if (node p c t).kind = 3 then decide (c.owners.getD (node p c t).arg.toNat 0 = 0)
     else if (node p c t).kind = 6 then !lives c (((th c t).slots.getD (node p c t).arg.toNat 0 : Int) - 1)
     else if (node p c t).kind = 5 then decide (c.ths.length < 8) else true)
def enabled (p : Pg) (c : Cf) (t : Int) : Bool:=decide (0 ≤ t) && enabledN p c t.toNat
def goOn (s : List (Nat × Nat)) (n : Nat) : List (Nat × Nat):=s.set (s.length - 1) ((top s).1,n)
def act (c : Cf) (t : Nat) (n : Nd) (way : Bool) : Cf :=
  if n.kind = 9 then ⟨c.ths.set t ⟨(th c t).stack.take ((th c t).stack.length - 1),(th c t).slots⟩,c.owners⟩
  else if n.kind = 3 then ⟨c.ths.set t ⟨goOn (th c t).stack n.next.toNat,(th c t).slots⟩,c.owners.set n.arg.toNat (t + 1)⟩
  else if n.kind = 4 then ⟨c.ths.set t ⟨goOn (th c t).stack n.next.toNat,(th c t).slots⟩,if c.owners.getD n.arg.toNat 0 = t + 1 then c.owners.set n.arg.toNat 0 else c.owners⟩
  else if n.kind = 5 then ⟨c.ths.set t ⟨goOn (th c t).stack n.next.toNat,(th c t).slots.set n.alt.toNat (c.ths.length + 1)⟩ ++ [⟨[(n.arg.toNat,0)],List.replicate 8 0⟩],c.owners⟩
  else if n.kind = 7 then ⟨c.ths.set t ⟨goOn (th c t).stack n.next.toNat ++ [(n.arg.toNat,0)],(th c t).slots⟩,c.owners⟩
  else if n.kind = 8 ∧ way = true then ⟨c.ths.set t ⟨goOn (th c t).stack n.alt.toNat,(th c t).slots⟩,c.owners⟩
  else ⟨c.ths.set t ⟨goOn (th c t).stack n.next.toNat,(th c t).slots⟩,c.owners⟩
def step (p : Pg) (c : Cf) (t : Int) (way : Bool) : Cf:=if enabled p c t = true then act c t.toNat (node p c t.toNat) way else c
def heldTo (o : List Nat) (t : Nat) : Nat → Nat
  | 0 => 0
  | k + 1 => if o.getD k 0 = t + 1 then heldTo o t k ||| 2 ^ k else heldTo o t k
def held (c : Cf) (t : Int) : Nat:=if 0 ≤ t ∧ t < (c.ths.length : Int) then heldTo c.owners t.toNat 16 else 0
theorem fine_node {p : Pg} (hf : Fine p) {f i : Nat} {fn : Fn} {x : Nd} (hfn : p.fns[f]? = some fn) (hx : fn.nodes[i]? = some x) : Q.may p.g p.l p.s p.len x fn.nodes.length = true :=
  (Q.fine_fn hfn (hf.nodes f (List.getElem?_eq_some_iff.1 hfn).1)).2.2 i x hx
theorem fine_len {p : Pg} (hf : Fine p) {f : Nat} {fn : Fn} (hfn : p.fns[f]? = some fn) : 0 < fn.nodes.length :=
  (Q.fine_fn hfn (hf.nodes f (List.getElem?_eq_some_iff.1 hfn).1)).1
structure Fit (p : Pg) (x : Nd) (nodes : Nat) : Prop where
  kind : 0 ≤ x.kind ∧ x.kind ≤ 9
  next : 0 ≤ x.next
  nextLt : x.kind ≠ 9 → x.next < nodes
  alt : 0 ≤ x.alt
  arg : 0 ≤ x.arg
  lock : x.kind = 3 ∨ x.kind = 4 → x.arg < 16
  join : x.kind = 6 → x.arg < 8
  spawn : x.kind = 5 → x.arg < p.len ∧ x.alt < 8
  call : x.kind = 7 → x.arg < p.len
  branch : x.kind = 8 → x.alt < nodes
theorem fit_of {p : Pg} (hc : Q.Counts p) {x : Nd} {nodes : Nat} (h : Q.may p.g p.l p.s p.len x nodes = true) (h0 : 0 < nodes) : Fit p x nodes:=by
  have hl:=hc.l;have hs:=hc.s
  unfold Q.may at h
  simp only [Bool.and_eq_true,decide_eq_true_eq,List.all_eq_true,List.mem_range] at h
  obtain ⟨hr,hall⟩:=h
  have hk : 0 ≤ x.kind ∧ x.kind ≤ 9:=by
    unfold Q.row at hr
    by_cases hb : x.kind < 0 ∨ 9 < x.kind
    · rw [if_pos hb] at hr;exact absurd rfl hr
    · omega
  have a0:=hall 0 (by omega)
  have a1:=hall 1 (by omega)
  have a2:=hall 2 (by omega)
  simp only [Q.fields,List.getD_cons_zero,List.getD_cons_succ] at a0 a1 a2
  have hrow : Q.row x.kind = Q.rows.getD x.kind.toNat []:=by unfold Q.row;rw [if_neg (by omega)]
  rw [hrow] at a0 a1 a2
  obtain ⟨k,hkk⟩ : ∃ k : Nat,x.kind = (k : Int):=⟨x.kind.toNat,by omega⟩
  rw [hkk] at a0 a1 a2
  simp only [Int.toNat_natCast] at a0 a1 a2
  have hmax : max (nodes : Int) 1 = nodes:=by omega
  have hk9 : k ≤ 9:=by omega
  have cases_ : k = 0 ∨ k = 1 ∨ k = 2 ∨ k = 3 ∨ k = 4 ∨ k = 5 ∨ k = 6 ∨ k = 7 ∨ k = 8 ∨ k = 9:=by omega
  rcases cases_ with rfl | rfl | rfl | rfl | rfl | rfl | rfl | rfl | rfl | rfl <;>
    simp [Q.rows,Q.size,hmax] at a0 a1 a2 <;>
    (refine ⟨hk,by omega,fun h => by omega,by omega,by omega,fun h => by omega,fun h => by omega,fun h => by omega,fun h => by omega,fun h => by omega⟩)
end Go.Proofs.YtlgaefenhfmjfaaDoor.M
