/- HeapP1, HeapP2, GraphP2, Box, SetP2. -/
import Derived.Test.YtlgaefenhfmjfaaDoorPu6
import Derived.Test.YtlgaefenhfmjfaaDoorPu5
import Derived.BigQuiet
import Derived.Deep.QuietTactic
import Derived.Test.YtlgaefenhfmjfaaDoorPu2
import Derived.Test.YtlgaefenhfmjfaaDoorPu1
namespace Go.Proofs.YtlgaefenhfmjfaaDoor
open Go.RowKit
def Hp (w : World) (K : Nat → Prop) (g : Nat) (l : List Int) : Prop:=Var w K g 128 3 (l.map intV)
set_option maxRecDepth 100000 in
set_option maxHeartbeats 800000 in
theorem qE (K : Nat → Prop) (g n : Nat) (l : List Int) (w : World) (hk : Hp w K g l) (hn : l.length = n) :
    Calls Tryd.prog 74 #[.pointer (some ⟨g,0,none⟩)] w fun e w' => e = .returned (.int .i64 (n : Int)) ∧ w = w':=by
  obtain ⟨A,c,hc,_,hnc,hcm,_⟩:=Var.opens hk hn
  unfold maxLen at hcm
  clear hk hn
  go_enter Tryd.func74,Tryd.ntmps74
  go_wp2
  go_ret
  exact ⟨rfl,rfl⟩
set_option maxRecDepth 100000 in
set_option maxHeartbeats 800000 in
theorem jF (K : Nat → Prop) (g n i j : Nat) (l : List Int) (w : World) (hk : Hp w K g l) (hn : l.length = n) (hi : i < n) (hj : j < n) (b : Bool) (hb : decide (H.at_ l i < H.at_ l j) = b) :
    Calls Tryd.prog 102 #[.pointer (some ⟨g,0,none⟩),.int .i64 (i : Int),.int .i64 (j : Int)] w fun e w' => e = .returned (.bool b) ∧ ∃ m,w' = w.drewN m:=by
  obtain ⟨A,c,hc,_,hnc,hcm,hr,_,hblk⟩:=Var.opens hk hn
  obtain ⟨r,cur,rfl,_⟩:=hblk (by omega)
  unfold maxLen at hcm
  have h1 : w.cell? ((⟨r,0,none⟩ : Addr).add i) = some (.int .i64 (H.at_ l i)):=by
    obtain ⟨ad,x,e,_,hx,hcx⟩:=hr.get hi
    cases e
    rw [hcx,H.at_of hx];rfl
  have h2 : w.cell? ((⟨r,0,none⟩ : Addr).add j) = some (.int .i64 (H.at_ l j)):=by
    obtain ⟨ad,x,e,_,hx,hcx⟩:=hr.get hj
    cases e
    rw [hcx,H.at_of hx];rfl
  rw [l7] at h1 h2
  generalize H.at_ l i = x at *
  generalize H.at_ l j = y at *
  have HB:=kp hb
  clear hk hn hr hblk hb
  go_enter Tryd.func102,Tryd.ntmps102
  go_wp2
  go_quiet (fail)
  go_wp2
  go_ret
  exact ⟨jC HB.out,_,rfl⟩
set_option maxRecDepth 100000 in
set_option maxHeartbeats 1600000 in
theorem lH (K : Nat → Prop) (g n i j : Nat) (l : List Int) (w : World) (hk : Hp w K g l) (hn : l.length = n) (hi : i < n) (hj : j < n) :
    Calls Tryd.prog 105 #[.pointer (some ⟨g,0,none⟩),.int .i64 (i : Int),.int .i64 (j : Int)] w fun e w' => e = .returned (.tuple #[]) ∧ Hp w' K g (H.swap l i j) ∧ Held K w w':=by
  have hlt:=hk.lt
  have hng:=hk.not
  obtain ⟨A,c,hc0,hblk,hnc,hcm,hr,hown,hb⟩:=Var.opens hk hn
  obtain ⟨r,cur,rfl,hrb,hcl,hct,hrg,hrk⟩:=hb (by omega)
  have h1 : cur[i]? = some (.int .i64 (H.at_ l i)):=by
    have h:=congrArg (fun q : List Value => q[i]?) hct
    simp only [List.getElem?_take,if_pos hi,List.getElem?_map,H.at_some (show i < l.length by omega)] at h
    exact h
  have h2 : cur[j]? = some (.int .i64 (H.at_ l j)):=by
    have h:=congrArg (fun q : List Value => q[j]?) hct
    simp only [List.getElem?_take,if_pos hj,List.getElem?_map,H.at_some (show j < l.length by omega)] at h
    exact h
  have h3 : ∃ z,(cur.set i (.int .i64 (H.at_ l j)))[j]? = some (.int .i64 z):=by
    rw [List.getElem?_set]
    by_cases hij : i = j
    · subst hij
      exact ⟨_,by rw [if_pos rfl,if_pos (by omega)]⟩
    · exact ⟨_,by rw [if_neg hij];exact h2⟩
  have HEnd : Kept (∀ W,Only (fun k => k = r) w W → Blk W r 3 ((cur.set i (.int .i64 (H.at_ l j))).set j (.int .i64 (H.at_ l i))) → Hp W K g (H.swap l i j) ∧ Held K w W):=kp fun W hO hb2 => by
    refine ⟨⟨_,hO.blk hblk (fun e => hrg e.symm),?_,fun e => hrg (by cases e;rfl),hng,fun k hk => by cases hk;exact hrk,fun k hk => Nat.lt_of_lt_of_le (hlt k hk) hO.size⟩,⟨hO.os,hO.tape,hO.output,hO.size,fun k hk => hO.block k (hlt k hk) fun e => hrk (by rw [← e];exact hk)⟩⟩
    have ho:=Blk.own (B:=0) (xs:=(H.swap l i j).map intV) hb2 (Nat.zero_le _) (cap:=c) (by simpa using hcl) (by rw [List.length_map,H.swap_len];omega) hcm (by
      rw [List.length_map,H.swap_len,hn,List.take_set,List.take_set,hct]
      unfold H.swap
      rw [List.map_set,List.map_set];rfl)
    rw [List.length_map,H.swap_len,hn] at ho
    exact ho
  unfold maxLen at hcm
  have HK:=kp hblk;have HR:=kp hrb;have HCi:=kp h1;have HCj:=kp h2;have HGr:=kp hrg
  obtain ⟨z,h3⟩:=h3
  have HCj1:=kp h3
  generalize H.at_ l i = x at *
  generalize H.at_ l j = y at *
  have hin : (i : Int) < (n : Int):=by omega
  have hjn : (j : Int) < (n : Int):=by omega
  clear hk hn hr hown hb hct hblk hrb h1 h2 h3 hlt hng hrk hrg hc0
  go_enter Tryd.func105,Tryd.ntmps105
  go_wp2
  apply qP (fun k => k = r) [21,23] [0,1,2,3,4,5,6,8,9,10,11,12,13,14,15,16,17,18,19,20] (phs ([fun W => Blk W r 3 cur,fun W => Blk W r 3 (cur.set i (.int .i64 y)),fun W => Blk W r 3 ((cur.set i (.int .i64 y)).set j (.int .i64 x))])) (.is _ :: .is _ :: .is _ :: .is _ :: .is _ :: .is _ :: .is _ :: .is _ :: .is _ :: .is _ :: .is _ :: .is _ :: .is _ :: .is _ :: .is _ :: .is _ :: .is _ :: .is _ :: .is _ :: .is _ :: .is _ :: .any _ :: .is _ :: .any _ :: [])
    [[],[(0,6)],[(1,7)],[],[],[(4,10)],[(5,11)],[],[],[(8,14)],[(9,15)],[],[(10,16),(11,17)],[(12,18)],[],[(14,20)],[(15,21)],[],[(16,22),(17,23)],[(18,24)],[(2,8),(3,9)],[(20,26),(13,19)],[(6,12),(7,13)],[(22,27),(19,25)]]
    [(0,6),(1,7),(2,8),(3,9),(4,10),(5,11),(6,12),(7,13),(8,14),(9,15),(10,16),(11,17),(12,18),(13,19),(14,20),(15,21),(16,22),(17,23),(18,24),(19,25),(20,26),(22,27)] (by kernel_rfl) (by kernel_rfl) (by kernel_rfl) (by kernel_rfl) (by decide)
  case h0 => exact HR.out
  case hob =>
    refine j9 rfl rfl ?o0 (j9 rfl rfl ?o1 (j9 rfl rfl ?o2 (j9 rfl rfl ?o3 (j9 rfl rfl ?o4 (j9 rfl rfl ?o5 (j9 rfl rfl ?o6 (xI rfl rfl ?o7 (j9 rfl rfl ?o8 (j9 rfl rfl ?o9 (j9 rfl rfl ?o10 (j9 rfl rfl ?o11 (j9 rfl rfl ?o12 (j9 rfl rfl ?o13 (j9 rfl rfl ?o14 (j9 rfl rfl ?o15 (j9 rfl rfl ?o16 (j9 rfl rfl ?o17 (j9 rfl rfl ?o18 (j9 rfl rfl ?o19 (j9 rfl rfl ?o20 (qX 0 rfl rfl ?o21 (xI rfl rfl ?o22 (qX 1 rfl rfl ?o23 (vH))))))))))))))))))))))))
    case o0 => intro W hO hJ;change wpList _ _ _ _ _ _;go_wp2;exact jA rfl rfl rfl hJ
    case o1 => intro W hO hJ;rintro _ rfl;change wpList _ _ _ _ _ _;go_wp2;exact jA rfl rfl rfl hJ
    case o2 =>
      intro W hO hJ;rintro _ rfl;change wpList _ _ _ _ _ _
      have hc:=(hO.blk HK.out (fun e => HGr.out e.symm)).cell 0
      go_wp2;exact jA rfl rfl rfl hJ
    case o3 => intro W hO hJ;change wpList _ _ _ _ _ _;go_wp2;exact jA rfl rfl rfl hJ
    case o4 => intro W hO hJ;change wpList _ _ _ _ _ _;go_wp2;exact jA rfl rfl rfl hJ
    case o5 => intro W hO hJ;rintro _ rfl;change wpList _ _ _ _ _ _;go_wp2;exact jA rfl rfl rfl hJ
    case o6 =>
      intro W hO hJ;rintro _ rfl;change wpList _ _ _ _ _ _
      have hc:=(hO.blk HK.out (fun e => HGr.out e.symm)).cell 0
      go_wp2;exact jA rfl rfl rfl hJ
    case o7 => intro p W hO hJ;change wpList _ _ _ _ _ _;go_wp2;exact jA rfl rfl rfl hJ
    case o8 => intro W hO hJ;change wpList _ _ _ _ _ _;go_wp2;exact jA rfl rfl rfl hJ
    case o9 => intro W hO hJ;rintro _ rfl;change wpList _ _ _ _ _ _;go_wp2;exact jA rfl rfl rfl hJ
    case o10 =>
      intro W hO hJ;rintro _ rfl;change wpList _ _ _ _ _ _
      have hc:=(hO.blk HK.out (fun e => HGr.out e.symm)).cell 0
      go_wp2;exact jA rfl rfl rfl hJ
    case o11 => intro W hO hJ;change wpList _ _ _ _ _ _;go_wp2;exact jA rfl rfl rfl hJ
    case o12 => intro W hO hJ;rintro _ rfl;rintro _ rfl;change wpList _ _ _ _ _ _;go_wp2;exact jA rfl rfl rfl hJ
    case o13 =>
      intro W hO hJ;rintro _ rfl;change wpList _ _ _ _ _ _
      have hc:=((show Blk W r 3 cur from hJ).cell j).trans HCj.out
      go_wp2;exact jA rfl rfl rfl hJ
    case o14 => intro W hO hJ;change wpList _ _ _ _ _ _;go_wp2;exact jA rfl rfl rfl hJ
    case o15 => intro W hO hJ;rintro _ rfl;change wpList _ _ _ _ _ _;go_wp2;exact jA rfl rfl rfl hJ
    case o16 =>
      intro W hO hJ;rintro _ rfl;change wpList _ _ _ _ _ _
      have hc:=(hO.blk HK.out (fun e => HGr.out e.symm)).cell 0
      go_wp2;exact jA rfl rfl rfl hJ
    case o17 => intro W hO hJ;change wpList _ _ _ _ _ _;go_wp2;exact jA rfl rfl rfl hJ
    case o18 => intro W hO hJ;rintro _ rfl;rintro _ rfl;change wpList _ _ _ _ _ _;go_wp2;exact jA rfl rfl rfl hJ
    case o19 =>
      intro W hO hJ;rintro _ rfl;change wpList _ _ _ _ _ _
      have hc:=((show Blk W r 3 cur from hJ).cell i).trans HCi.out
      go_wp2;exact jA rfl rfl rfl hJ
    case o20 => intro W hO hJ;rintro _ rfl;rintro _ rfl;change wpList _ _ _ _ _ _;go_wp2;exact jA rfl rfl rfl hJ
    case o21 =>
      intro W hO hJ;rintro _ rfl;rintro _ rfl;change wpList _ _ _ _ _ _
      have hRW : Blk W r 3 cur:=hJ
      have hc:=(hRW.cell i).trans HCi.out
      have hf:=hRW.frozen i
      have HRn:=kp (hRW.set i (.int .i64 y))
      clear hJ hRW
      go_wp2
      exact xL rfl (Only.set rfl) HRn.out
    case o22 => intro p W hO hJ;rintro _ rfl;rintro _ rfl;change wpList _ _ _ _ _ _;go_wp2;exact jA rfl rfl rfl hJ
    case o23 =>
      intro W hO hJ;rintro _ rfl;rintro _ rfl;change wpList _ _ _ _ _ _
      have hRW : Blk W r 3 (cur.set i (.int .i64 y)):=hJ
      have hc:=(hRW.cell j).trans HCj1.out
      have hf:=hRW.frozen j
      have HRn:=kp (hRW.set j (.int .i64 x))
      clear hJ hRW
      go_wp2
      exact xL rfl (Only.set rfl) HRn.out
  case hend =>
    intro W hO hJ;rintro _ rfl;rintro _ rfl;rintro _ rfl;rintro _ rfl;rintro _ rfl;rintro _ rfl;rintro _ rfl;rintro _ rfl;rintro _ rfl;rintro _ rfl;rintro _ rfl;rintro _ rfl;rintro _ rfl;rintro _ rfl;rintro _ rfl;rintro _ rfl;rintro _ rfl;rintro _ rfl;rintro _ rfl;rintro _ rfl;rintro _ rfl;rintro _ rfl
    simp only [ggiven,jV,List.set]
    have HW:=kp (HEnd.out W hO (show Blk W r 3 ((cur.set i (.int .i64 y)).set j (.int .i64 x)) from hJ))
    clear hO hJ
    go_wp2
    go_end0
    exact ⟨rfl,HW.out⟩
theorem yH (x : Int) (w : World) : (Instr.typeAssert (.iface 3 (.int .i64 x)) 20 3 true).run Tryd.prog w = .ok (.tuple #[.int .i64 x,.bool true]) w:=by kernel_rfl
def hpV (g : Nat) : Value:=.iface 127 (.pointer (some ⟨g,0,none⟩))
set_option maxRecDepth 100000 in
set_option maxHeartbeats 800000 in
theorem u7 (K : Nat → Prop) (g : Nat) (x : Int) (l : List Int) (w : World) (hk : Hp w K g l) (hn : l.length ≤ 1000000) :
    Calls Tryd.prog 104 #[.pointer (some ⟨g,0,none⟩),.iface 3 (.int .i64 x)] w fun e w' => e = .returned (.tuple #[]) ∧ Hp w' K g (l ++ [x]) ∧ Held K w w':=by
  obtain ⟨v,hblk,hown,hne,hS1,hS2,hS3⟩:=hk
  have HK:=kp hblk;have HO:=kp hown;have HNe:=kp hne
  have HS1:=kp hS1;have HS2:=kp hS2;have HS3:=kp hS3
  have hc : w.cell? ⟨g,0,none⟩ = some v:=hblk.cell 0
  have hgs:=hblk.lt
  clear hblk hown hne hS1 hS2 hS3
  have hta:=yH x w
  go_enter Tryd.func104,Tryd.ntmps104
  go_wp2_with (first
    | (at_builtin;go_must (refine jQ rfl (.tmp 15) (.tmp 17) 128 rfl 0 3 _ _ Tryd.underlying128 q5 rfl _ v _ _ rfl HO.out _ 1 rfl rfl rfl (by simp [maxLen];omega) (by simp;omega) (Nat.zero_le _) ?_);intro v1 w1 hown1 hg1
       have HK1:=kp (HK.out.grown hg1.1 (fun e => HNe.out e.symm))
       have hf1:=HK1.out.frozen 0
       have hc1 : w1.cell? ⟨g,0,none⟩ = some v:=HK1.out.cell 0
       have HO1:=kp hown1;have HG1:=kp hg1
       obtain ⟨A1,c1,e1,_⟩:=hown1.form
       generalize (List.map intV l ++ [Value.int IntKind.i64 x]).length = n1 at e1
       subst e1
       clear hown1 hg1 hc))
  go_end0
  have hsz:=HG1.out.size
  have hne1 : (Value.slice A1 n1 c1).ownBlock ≠ some g:=by
    rcases HG1.out.2 with h | h
    · rw [h];exact HNe.out
    · intro e
      have:=h g e
      omega
  refine ⟨rfl,⟨_,HK1.out.set 0 _,?_,hne1,HS1.out,fun k hk hs => ?_,fun k hk => ?_⟩,?_⟩
  · rw [List.map_append]
    exact HO1.out.far (jK (g:=g) (jG _ _)) (.inr hne1)
  · rcases HG1.out.2 with h | h
    · exact HS2.out k (by rw [← h];exact hk) hs
    · have:=h k hk
      have:=HS3.out k hs
      omega
  · have:=HS3.out k hk
    simp;omega
  · refine (Held.of_grown (row:=v.ownBlock) HG1.out.1 fun k hk => ⟨HS3.out k hk,fun e => HS2.out k e.symm hk⟩).trans (Held.of_grown (row:=some g) (jK (jG _ _)) fun k hk => ⟨?_,fun e => ?_⟩)
    · have:=HS3.out k hk;omega
    · cases e;exact HS1.out hk
set_option maxRecDepth 100000 in
set_option maxHeartbeats 800000 in
theorem J0 (K : Nat → Prop) (g m : Nat) (l : List Int) (w : World) (hk : Hp w K g l) (hn : l.length = m + 1) :
    Calls Tryd.prog 103 #[.pointer (some ⟨g,0,none⟩)] w fun e w' => e = .returned (.iface 3 (.int .i64 (H.at_ l m))) ∧ Hp w' K g (l.take m) ∧ Held K w w':=by
  have hlt:=hk.lt
  have hng:=hk.not
  obtain ⟨A,c,hc,hblk,hnc,hcm,hr,hown,hb⟩:=Var.opens hk hn
  obtain ⟨r,cur,rfl,hrb,hcl,hct,hrg,hrk⟩:=hb (by omega)
  have hx : w.cell? ⟨r,m,none⟩ = some (.int .i64 (H.at_ l m)):=by
    obtain ⟨ad,x,e,_,hx,hcx⟩:=hr.get (show m < m + 1 by omega)
    cases e
    rw [l7] at hcx
    rw [hcx,H.at_of hx];rfl
  have HEnd : Kept (Hp (w.setCell ⟨g,0,none⟩ (.slice (some ⟨r,0,none⟩) m c)) K g (l.take m) ∧ Held K w (w.setCell ⟨g,0,none⟩ (.slice (some ⟨r,0,none⟩) m c))):=kp <| by
    refine ⟨⟨_,hblk.set 0 _,?_,fun e => hrg (by cases e;rfl),hng,fun k hk => by cases hk;exact hrk,fun k hk => by have:=hlt k hk;simp;omega⟩,Held.of_grown (row:=some g) (jK (jG _ _)) fun k hk => ⟨hlt k hk,fun e => hng (by cases e;exact hk)⟩⟩
    have h1:=(hown.front (m:=m) (by omega)).far (jK (g:=g) (k:=0) (v:=.slice (some ⟨r,0,none⟩) m c) (jG _ _)) (.inr fun e => hrg (by cases e;rfl))
    rwa [List.map_take]
  have hf:=hblk.frozen 0
  generalize H.at_ l m = x at *
  unfold maxLen at hcm
  clear hk hn hr hown hb hct hblk hrb hlt hng hrk hrg
  go_enter Tryd.func103,Tryd.ntmps103
  go_wp2_with ((with_reducible show Sl 21);go_must (refine qJ rfl 128 (.tmp 19) (.tmp 20) rfl 3 Tryd.underlying128 LS (some ⟨r,0,none⟩) (m + 1) c rfl .i64 m rfl (by omega) ?_))
  go_ret
  exact ⟨rfl,HEnd.out⟩
theorem xM {p : Pg} (hs : Q.small p = true) {f : Nat} {fn : Fn} (h : p.fns[f]? = some fn) : fn.nodes.length ≤ 100:=by
  unfold Q.small at hs
  rw [Bool.and_eq_true] at hs
  simpa using List.all_eq_true.1 hs.2 fn (List.mem_of_getElem? h)
theorem vT {l : List Nd} {kind : Int} (h : ∀ x ∈ l,x.Ok) : ∀ y ∈ argsL l kind,I64 y:=fun y hy => by
  obtain ⟨nd,h1,_,rfl⟩:=vS.1 hy
  exact (h nd h1).arg
def qH (p : Pg) (ms : List Nat) (i : Nat) : Prop:=ms.length = p.len ∧ ∀ (f : Nat) (fn : Fn) (m : Nat),f < i → p.fns[f]? = some fn → ms[f]? = some m → BitsAre m (Names fn.nodes 7)
theorem qH.step {p : Pg} {ms : List Nat} {i m : Nat} {fn : Fn} (h : qH p ms i) (hf : p.fns[i]? = some fn) (hm : BitsAre m (Names fn.nodes 7)) : qH p (ms.set i m) (i + 1):=by
  refine ⟨by rw [List.length_set];exact h.1,fun f fn' m' hfi hfn hm' => ?_⟩
  rw [List.getElem?_set] at hm'
  by_cases e : i = f
  · subst e
    rw [if_pos rfl] at hm'
    split at hm'
    · cases hm'
      rw [hf] at hfn;cases hfn
      exact hm
    · cases hm'
  · rw [if_neg e] at hm'
    exact h.2 f fn' m' (by omega) hfn hm'
set_option maxRecDepth 100000 in
set_option maxHeartbeats 1600000 in
theorem qI (B : Nat) (p : Pg) (w : World) (hp : p.Ok w B) (hB : B ≤ w.heap.size) (hs : Q.small p = true) (_h32 : p.len ≤ 32) :
    Calls Tryd.prog 65 #[pgA p] w fun e w' => ∃ (v : Value) (ms : List Nat),e = .returned v ∧ ms.length = p.len ∧ (∀ (f : Nat) (fn : Fn) (m : Nat),p.fns[f]? = some fn → ms[f]? = some m → BitsAre m (Names fn.nodes 7)) ∧ Own w' w.heap.size 51 v (ms.map wordV) ∧ Below w.heap.size w w':=by
  have HP:=kp hp;have HS:=kp hs
  have hlen:=hp.row.len
  have HLen:=kp hlen
  have hlc:=hp.lc;have hcm:=hp.cm
  unfold maxLen at hcm
  have hcm9 : p.cap ≤ 9223372036854775807:=by omega
  clear hp hcm hs hlen
  rw [jT]
  go_enter Tryd.func65,Tryd.ntmps65
  go_wp2_with (first
    | ((with_reducible refine j4 rfl 24 (.tmp 0) rfl (pgC p) rfl ?_);intro g1 w1 hg1 hk1 hw1;have HK1:=kp hk1;obtain ⟨hc0,hc1,hc2,hc3⟩:=j8 hk1;have HW1:=kp hw1;have hs1:=hw1.size;clear hg1 hk1 hw1)
    | ((with_reducible show Sl 9);go_must (refine lE rfl 52 (.tmp 8) (.tmp 8) rfl 51 (.int .u32 0) 4 Tryd.underlying52 lF rfl .i64 .i64 p.len p.len rfl rfl (Nat.le_refl _) (by omega) (by omega) ?_);intro r w2 hr2 hk2 hw2;have HR2 : Kept (w.heap.size ≤ r):=kp (Nat.le_trans hs1 hr2);have HK2:=kp hk2;have HB2:=kp (HW1.out.trans (hw2.mono hs1));have HK1b:=kp (HK1.out.below hw2 HK1.out.lt);clear hr2 hk2 hw2 hc0 hc1 hc2 hc3;obtain ⟨hc0,hc1,hc2,hc3⟩:=j8 HK1b.out))
  go_loopw [13] (fun v13 wr => ∃ (i : Nat) (ms : List Nat),i ≤ p.len ∧ v13 = .int .i64 i ∧ qH p ms i ∧ Blk wr r 51 (ms.map wordV) ∧ Below w.heap.size w wr) (fun v13 _ => p.len - (intOf v13).toNat)
  case atStart => exact ⟨0,List.replicate p.len 0,by omega,rfl,⟨by simp,fun f fn m hf => by omega⟩,by rw [List.map_replicate];exact HK2.out,HB2.out⟩
  case round =>
    clear HK1 HK1b HW1 HK2 HB2 hc0 hc1 hc2 hc3
    obtain ⟨i,ms,hi,rfl,hms,hk,hbw⟩:=hrel
    have HMs:=kp hms;have HK:=kp hk;have HBw:=kp hbw
    have hsz:=hbw.size
    by_cases hlt : i < p.len
    · obtain ⟨ad,fn,e0,_,hfn,hfok,hcf⟩:=(HP.out.below (hbw.mono hB)).fn hlt
      rw [e0]
      have HFn:=kp hfn;have HFok:=kp hfok
      have hfl100:=xM HS.out hfn
      have hfl:=hfok.nodes.1.len
      have hfl' : fn.len ≤ 1000000:=by omega
      have hfcm:=hfok.cm
      have hflc:=hfok.lc
      unfold maxLen at hfcm
      have hml:=hms.1
      obtain ⟨q,hq⟩ : ∃ q,ms[i]? = some q:=⟨ms[i]'(by omega),List.getElem?_eq_getElem (by omega)⟩
      have HQ:=kp hq
      have hBr : B ≤ wr.heap.size:=Nat.le_trans hB hsz
      have HE0:=kp e0
      obtain ⟨n4,hn4⟩ : ∃ n4,(argsL fn.nodes 7).length = n4:=⟨_,rfl⟩
      have hn4le : n4 ≤ 1000000:=by rw [← hn4];have:=yJ fn.nodes 7;omega
      have HN4:=kp hn4
      clear hms hk hbw hfn hfok hq hn4 e0 hfl hfl100
      go_wp2_with (first
        | (go_at_call 38;go_must (refine (xS B fn.A fn.len fn.cap fn.nodes 7 wr HFok.out.nodes hfl' hBr).mono ?_);rintro e w4 ⟨v4,rfl,hown4,hb4⟩
           obtain ⟨A4,c4,rfl,hc4,hm4,hr4⟩:=Own.readsN hown4 HN4.out
           have HR4:=kp hr4;have HB4:=kp hb4;have HKr:=kp (HK.out.below hb4 HK.out.lt)
           clear hown4 hr4 hb4 hm4)
        | (go_at_call 37;go_must (refine (xQ _ A4 n4 c4 _ w4 HR4.out (vT HFok.out.nodes.2) hn4le).mono ?_);rintro e w5 ⟨m,rfl,hm,rfl⟩
           have HM:=kp (hm.congr fun id _ => yI id)
           have hcr:=HKr.out.cell i
           rw [List.getElem?_map,HQ.out] at hcr
           have hfr:=HKr.out.frozen i
           have hri : (i : Int) < (p.len : Int):=by omega
           clear hm))
      go_roundw
      case rel =>
        refine ⟨i + 1,ms.set i m,by omega,by go_num,HMs.out.step HFn.out HM.out,?_,?_⟩
        · rw [List.map_set]
          exact HKr.out.set i _
        · have hb5:=HBw.out.trans (HB4.out.mono hsz)
          exact ⟨hb5.os,hb5.tape,hb5.output,by simpa using hb5.size,fun k hk => (heap_setCell_other w4 _ k _ (by intro e;have:=HR2.out;simp only at e;omega)).trans (hb5.block k hk)⟩
      case measure => simp [intOf];omega
    · have hie : i = p.len:=by omega
      have HE : Kept (∀ (f : Nat) (fn : Fn) (m : Nat),p.fns[f]? = some fn → ms[f]? = some m → BitsAre m (Names fn.nodes 7)):=kp fun f fn m hf hm => HMs.out.2 f fn m (by have:=(List.getElem?_eq_some_iff.1 hf).1;rw [HLen.out] at this;omega) hf hm
      have HL : Kept (ms.length = p.len):=kp hms.1
      have hge : p.len ≤ i:=by omega
      clear hms hk hbw hlt hie
      go_wp2
      go_ret
      refine ⟨_,ms,rfl,HL.out,HE.out,?_,HBw.out⟩
      have h:=Blk.own (xs:=ms.map wordV) HK.out HR2.out (cap:=p.len) (by rw [List.length_map,HL.out]) (by rw [List.length_map,HL.out];exact Nat.le_refl _) (by unfold maxLen;omega) (List.take_length ..)
      rw [List.length_map,HL.out] at h
      exact h
set_option maxRecDepth 100000 in
set_option maxHeartbeats 1600000 in
theorem vG (B : Nat) (p : Pg) (w : World) (hp : p.Ok w B) (hB : B ≤ w.heap.size) (hs : Q.small p = true) (_h32 : p.len ≤ 32) :
    Calls Tryd.prog 19 #[pgA p] w fun e w' => ∃ m : Nat,e = .returned (.int .u32 (m : Int)) ∧ BitsAre m (fun id => ∃ fn ∈ p.fns,Names fn.nodes 5 id) ∧ Below w.heap.size w w':=by
  have HP:=kp hp;have HS:=kp hs
  have hlen:=hp.row.len
  have HLen:=kp hlen
  have hlc:=hp.lc;have hcm:=hp.cm
  unfold maxLen at hcm
  have hcm9 : p.cap ≤ 9223372036854775807:=by omega
  clear hp hcm hs hlen
  rw [jT]
  go_enter Tryd.func19,Tryd.ntmps19
  go_wp2_with (first
    | ((with_reducible refine j4 rfl 24 (.tmp 0) rfl (pgC p) rfl ?_);intro g1 w1 hg1 hk1 hw1;have HK1:=kp hk1;obtain ⟨hc0,hc1,hc2,hc3⟩:=j8 hk1;have HW1:=kp hw1;have hs1:=hw1.size;clear hg1 hk1 hw1))
  go_loopw [3,9] (fun v3 v9 wr => ∃ (i q : Nat),i ≤ p.len ∧ v9 = .int .i64 i ∧ v3 = .int .u32 (q : Int) ∧ BitsAre q (fun id => ∃ fn ∈ p.fns.take i,Names fn.nodes 5 id) ∧ Below w.heap.size w wr) (fun _ v9 _ => p.len - (intOf v9).toNat)
  case atStart => exact ⟨0,0,by omega,rfl,rfl,lG.congr fun id _ => by simp,HW1.out⟩
  case round =>
    clear HK1 HW1 hc0 hc1 hc2 hc3
    obtain ⟨i,q,hi,rfl,rfl,hq,hbw⟩:=hrel
    have HQ:=kp hq;have HBw:=kp hbw
    have hqlt : q < 4294967296:=hq.1
    have hsz:=hbw.size
    by_cases hlt : i < p.len
    · obtain ⟨ad,fn,e0,_,hfn,hfok,hcf⟩:=(HP.out.below (hbw.mono hB)).fn hlt
      rw [e0]
      have HFn:=kp hfn;have HFok:=kp hfok
      have hfl100:=xM HS.out hfn
      have hfl:=hfok.nodes.1.len
      have hfl' : fn.len ≤ 1000000:=by omega
      have hfcm:=hfok.cm
      have hflc:=hfok.lc
      unfold maxLen at hfcm
      have hBr : B ≤ wr.heap.size:=Nat.le_trans hB hsz
      have HE0:=kp e0
      obtain ⟨n4,hn4⟩ : ∃ n4,(argsL fn.nodes 5).length = n4:=⟨_,rfl⟩
      have hn4le : n4 ≤ 1000000:=by rw [← hn4];have:=yJ fn.nodes 5;omega
      have HN4:=kp hn4
      clear hq hbw hfn hfok hn4 e0 hfl hfl100
      go_wp2_with (first
        | (go_at_call 38;go_must (refine (xS B fn.A fn.len fn.cap fn.nodes 5 wr HFok.out.nodes hfl' hBr).mono ?_);rintro e w4 ⟨v4,rfl,hown4,hb4⟩
           obtain ⟨A4,c4,rfl,hc4,hm4,hr4⟩:=Own.readsN hown4 HN4.out
           have HR4:=kp hr4;have HB4:=kp hb4
           clear hown4 hr4 hb4 hm4)
        | (go_at_call 37;go_must (refine (xQ _ A4 n4 c4 _ w4 HR4.out (vT HFok.out.nodes.2) hn4le).mono ?_);rintro e w5 ⟨m,rfl,hm,rfl⟩
           have HM:=kp (hm.congr fun id _ => yI id)
           have hmlt : m < 4294967296:=hm.1
           have HBt : Kept (bits .or .u32 (q : Int) (m : Int) = ((q ||| m : Nat) : Int)):=kp <| u32_or_nat q m hqlt hmlt
           clear hm))
      go_roundw
      case rel =>
        refine ⟨i + 1,q ||| m,by omega,by go_num,by rw [HBt.out],(y1 HQ.out HM.out).congr fun id _ => ?_,HBw.out.trans (HB4.out.mono hsz)⟩
        rw [List.take_add_one,HFn.out,Option.toList_some]
        simp only [List.mem_append,List.mem_singleton]
        constructor
        · rintro (⟨f,h1,h2⟩ | h)
          · exact ⟨f,.inl h1,h2⟩
          · exact ⟨fn,.inr rfl,h⟩
        · rintro ⟨f,h1 | rfl,h2⟩
          · exact .inl ⟨f,h1,h2⟩
          · exact .inr h2
      case measure => simp [intOf];omega
    · have HE : Kept (p.fns.take i = p.fns):=kp (List.take_of_length_le (by rw [HLen.out];omega))
      have hge : p.len ≤ i:=by omega
      clear hq hbw hlt
      go_wp2
      go_ret
      exact ⟨q,rfl,by rw [← HE.out];exact HQ.out,HBw.out⟩
theorem y2 {P : Program} {ops : Array Oper} {rest : List Oper} {o : Oper} {a : Act} {w : World} {Q : Exit → Act → World → Prop} (hgd : o.guard = none) (ty : TypeId) (x : Operand) (ho : o.op = .box ty x)
    (v : Value) (hx : a.eval x = v) (hv : v.cells = #[v])
    (h : ∀ g w',w.heap.size ≤ g → Blk w' g ty [v] → Below w.heap.size w w' → wpList P ops Q rest (a.put o.dst (.pointer (some ⟨g,0,none⟩))) w') : wpList P ops Q (o :: rest) a w:=by
  refine wpList_plain hgd fun K hK => ?_
  unfold Oper.wp
  simp [execOp,ho,hx,Instr.box,newVar,newRow,hv,Result.andThen]
  exact hK _ _ (h _ _ (Nat.le_refl _) (Blk.newAt rfl rfl) ((Below.refl _ _).alloc (Nat.le_refl _) _))
theorem Var.new {w : World} {S : Nat → Prop} {g : Nat} {t e : TypeId} {v : Value} {xs : List Value} (hb : Blk w g t [v]) (ho : Own w 0 e v xs) (hne : v.ownBlock ≠ some g) (hg : ¬ S g) (hS : ∀ k,v.ownBlock = some k → ¬ S k) (hl : ∀ k,S k → k < w.heap.size) : Var w S g t e xs :=
  ⟨v,hb,ho,hne,hg,hS,hl⟩
theorem zZ (p a b c : Nat) (A B C : Int) (hA : A = (a : Int)) (hB : B = (b : Int)) (hC : C = (c : Int)) : ((p : Int) * A % B / C).toNat = p * a % b / c:=by
  rw [hA,hB,hC,← Int.natCast_mul,← Int.natCast_emod,← Int.natCast_ediv,Int.toNat_natCast]
def bruijn : List Nat:=[0,1,28,2,29,14,24,3,30,22,20,15,25,17,4,8,31,27,13,23,21,19,16,7,26,12,18,6,11,5,10,9]
def Tab (w : World) : Prop:=Row byteV w 1 (some ⟨0,0,none⟩) 32 bruijn
theorem Tab.below {w w' : World} {B : Nat} (h : Tab w) (hb : Below B w w') (hB : 1 ≤ B) : Tab w':=Row.below h (hb.mono hB)
theorem Tab.size {w : World} (h : Tab w) : 1 ≤ w.heap.size:=by
  obtain ⟨ad,x,e,hb,_,hc⟩:=Row.get h (k:=0) (by omega)
  have:=lJ hc
  omega
theorem J8 : ∀ k,k ≤ 31 → bruijn[2 ^ k * 125613361 % 4294967296 / 134217728]? = some k ∧ 2 ^ k * 125613361 % 4294967296 / 134217728 < 32:=by decide
set_option maxRecDepth 100000 in
set_option maxHeartbeats 800000 in
theorem zC (m : Nat) (hm : m < 4294967296) (h0 : m ≠ 0) (k : Nat) (hk : k ≤ 31) (hl : (m &&& (4294967296 - m)) = 2 ^ k) (w : World) (ht : Tab w) :
    -- for function 78
    Calls Tryd.prog 84 #[.int .u32 (m : Int)] w fun e w' => e = .returned (.int .i64 (k : Int)) ∧ w = w':=by
  have HBits : Kept (bits .and .u32 (m : Int) ((4294967296 - m : Nat) : Int) = ((2 ^ k : Nat) : Int)):=kp <| by rw [u32_and_nat m (4294967296 - m) hm (by omega),hl]
  obtain ⟨hb1,hb2⟩:=J8 k hk
  obtain ⟨j,hj⟩ : ∃ j,2 ^ k * 125613361 % 4294967296 / 134217728 = j:=⟨_,rfl⟩
  rw [hj] at hb1 hb2
  obtain ⟨ad,x,e1,_,hx,hc⟩:=Row.get ht hb2
  cases e1
  rw [hb1] at hx
  cases hx
  rw [J7] at hc
  have hp:=zT k hk
  have hneg : -(m : Int) % 4294967296 = ((4294967296 - m : Nat) : Int):=by omega
  have he : (bits .and .u32 (m : Int) (-(m : Int) % 4294967296) * 125613361 % 4294967296 / 134217728).toNat = j:=by
    rw [hneg,HBits.out,← hj]
    generalize 2 ^ k = p
    exact zZ p 125613361 4294967296 134217728 125613361 4294967296 134217728 rfl rfl rfl
  have hadd:=l7 0 j
  have hcell : w.cell? ⟨0,(bits .and .u32 (m : Int) (-(m : Int) % 4294967296) * 125613361 % 4294967296 / 134217728).toNat,none⟩ = some (.int .u8 (k : Int)):=by rw [he,← hadd];exact hc
  clear hb1 hl hj ht hneg he hadd hc hb2 HBits
  have hz : ((m : Int) == 0) = false:=by simpa using h0
  go_enter Tryd.func84,Tryd.ntmps84
  go_wp2
  go_ret
  exact ⟨rfl,rfl⟩
set_option maxRecDepth 100000 in
set_option maxHeartbeats 800000 in
theorem uZ (m : Nat) (hm : m < 4294967296) (r : Int) (hr : S.least m = r) (w : World) (ht : Tab w) :
    Calls Tryd.prog 78 #[.int .u32 (m : Int)] w fun e w' => e = .returned (.int .i64 r) ∧ w = w':=by
  by_cases h0 : m = 0
  · subst h0
    have HR : Kept (-1 = r):=kp <| by rw [← hr];unfold S.least;rw [S.ids_zero]
    clear hr
    go_enter Tryd.func78,Tryd.ntmps78
    go_wp2
    go_ret
    exact ⟨lR HR.out,rfl⟩
  · obtain ⟨k,hk,hi,hn,_⟩:=S.low m h0 hm
    have HR : Kept ((k : Int) = r):=kp <| by rw [← hr,S.least_low m k _ hi]
    have HN:=kp hn;have HT:=kp ht
    clear hi hr hn ht
    have hb : ((m : Int) == 0) = false:=by simpa using h0
    go_enter Tryd.func78,Tryd.ntmps78
    go_wp2_with (go_at_call 84;go_must (refine (zC m hm h0 k hk HN.out _ HT.out).mono ?_);rintro e w' ⟨rfl,rfl⟩)
    go_ret
    exact ⟨lR HR.out,rfl⟩
set_option maxRecDepth 100000 in
set_option maxHeartbeats 800000 in
theorem J4 (m : Nat) (hm : m < 4294967296) (n : Nat) (hn : S.count m = n) (w : World) :
    Calls Tryd.prog 76 #[.int .u32 (m : Int)] w fun e w' => e = .returned (.int .i64 (n : Int)) ∧ w = w':=by
  have hn32 : n ≤ 32:=by rw [← hn];exact S.count_le m
  have HN:=kp hn;clear hn
  go_enter Tryd.func76,Tryd.ntmps76
  go_wp2
  go_loop [0,3] (fun v0 v3 => ∃ q k : Nat,q < 4294967296 ∧ v0 = .int .u32 (q : Int) ∧ v3 = .int .i64 (k : Int) ∧ k ≤ 32 ∧ k + S.count q = n) (fun v0 _ => (intOf v0).toNat)
  case atStart => exact ⟨m,0,hm,rfl,rfl,by omega,by rw [HN.out];omega⟩
  case round =>
    obtain ⟨q,k,hq,rfl,rfl,hk,hkq⟩:=hrel
    by_cases h0 : q = 0
    · subst h0
      have HE : Kept (k = n):=kp <| by rw [← hkq,S.count_zero];rfl
      clear hkq
      go_wp2
      go_ret
      exact ⟨lR (by rw [HE.out]),rfl⟩
    · have hb : ((q : Int) != 0) = true:=by simpa using h0
      obtain ⟨_,_,_,_,hlt⟩:=S.low q h0 hq
      have hc:=S.count_rest q h0 hq
      have hc2:=S.count_le q
      obtain ⟨r,hr⟩ : ∃ r,S.rest q = r:=⟨_,rfl⟩
      rw [hr] at hlt hc
      have HR:=kp hr
      have HC : Kept (k + 1 + S.count r = n):=kp <| by omega
      have HC32 : Kept (k + 1 ≤ 32):=kp <| by have:=HC.out;omega
      clear hc hr hc2 hkq
      go_wp2_with (go_at_call 77;go_must (refine (zP q hq h0 r HR.out _).mono ?_);rintro e w' ⟨rfl,rfl⟩)
      go_round
      case rel => exact ⟨r,k + 1,by omega,rfl,by go_num,HC32.out,HC.out⟩
      case measure => simp [intOf];omega
set_option maxRecDepth 100000 in
set_option maxHeartbeats 800000 in
theorem JT (m : Nat) (hm : m < 4294967296) (w : World) (ht : Tab w) (hw : 1 ≤ w.heap.size) :
    Calls Tryd.prog 66 #[.int .u32 (m : Int)] w fun e w' => ∃ v,e = .returned v ∧ Own w' w.heap.size 3 v ((S.ids m 32).map natV) ∧ Below w.heap.size w w':=by
  have hcl:=S.count_le m
  obtain ⟨n,hn⟩ : ∃ n,S.count m = n:=⟨_,rfl⟩
  rw [hn] at hcl
  have HN:=kp hn;have HT:=kp ht
  clear hn ht
  go_enter Tryd.func66,Tryd.ntmps66
  go_wp2_with (first
    | (go_at_call 76;go_must (refine (J4 m hm n HN.out _).mono ?_);rintro e w' ⟨rfl,rfl⟩)
    | ((with_reducible show Sl 6);go_must (refine lE rfl 74 (.const (.int .i64 0)) (.tmp 5) rfl 3 (.int .i64 0) 8 Tryd.underlying74 q5 rfl .i64 .i64 0 n rfl rfl (by omega) (by omega) (by omega) ?_);intro g1 w1 hg1 hk1 hw1;have HO1 : Kept (Own w1 w.heap.size 3 (.slice (some ⟨g1,0,none⟩) 0 n) []):=kp (Blk.own (xs:=[]) hk1 hg1 (by simp) (by simp) (by simp [maxLen];omega) (by simp));have HW1:=kp hw1;clear hg1 hk1 hw1))
  go_loopw [0,3] (fun v0 v3 wr => ∃ (q : Nat) (l : List Nat),q < 4294967296 ∧ v0 = .int .u32 (q : Int) ∧ S.ids m 32 = l ++ S.ids q 32 ∧ l.length ≤ 32 ∧ Own wr w.heap.size 3 v3 (l.map natV) ∧ Below w.heap.size w wr) (fun v0 _ _ => (intOf v0).toNat)
  case atStart => exact ⟨m,[],hm,rfl,rfl,by simp,HO1.out,HW1.out⟩
  case round =>
    clear HO1 HW1
    obtain ⟨q,l,hq,rfl,hl,hll,hown,hbl⟩:=hrel
    have hB:=hbl.size
    have HOwn:=kp hown;have HBL:=kp hbl;have HL:=kp hl
    clear hown hbl hl
    by_cases h0 : q = 0
    · subst h0
      have HE : Kept (l = S.ids m 32):=kp <| by rw [HL.out,S.ids_zero,List.append_nil]
      go_wp2
      go_ret
      exact ⟨_,rfl,by rw [← HE.out];exact HOwn.out,HBL.out⟩
    · have hb : ((q : Int) != 0) = true:=by simpa using h0
      obtain ⟨k,hk,hi,hn,hlt⟩:=S.low q h0 hq
      have hls:=S.least_low q k _ hi
      obtain ⟨r,hr⟩ : ∃ r,S.rest q = r:=⟨_,rfl⟩
      have HS:=kp hls
      have HN2 : Kept (S.ids m 32 = (l ++ [k]) ++ S.ids r 32):=kp <| by rw [HL.out,hi,hr];simp
      have hlen : l.length + 1 ≤ 32:=by
        have h1:=S.ids_len m 32
        rw [HN2.out] at h1
        simp at h1
        omega
      rw [hr] at hlt
      have HR:=kp hr
      have HTw : Kept (Tab wr):=kp <| HT.out.below HBL.out hw
      clear hi hn hls hr
      go_wp2_with (first
        | (go_at_call 78;go_must (refine (uZ q hq k HS.out _ HTw.out).mono ?_);rintro e w' ⟨rfl,rfl⟩)
        | (at_builtin;go_must (refine jQ rfl (.tmp 11) (.tmp 14) 74 rfl w.heap.size 3 _ _ Tryd.underlying74 q5 rfl _ _ _ _ rfl HOwn.out _ 1 rfl rfl rfl (by simp [maxLen];omega) (by simp;omega) hB ?_);intro v1 w1 hown1 hg1;have HO1:=kp hown1;clear hown1;have HG1:=kp hg1;clear hg1)
        | (go_at_call 77;go_must (refine (zP q hq h0 r HR.out _).mono ?_);rintro e w' ⟨rfl,rfl⟩))
      go_roundw
      case rel => exact ⟨r,l ++ [k],by omega,rfl,HN2.out,by simp;omega,by rw [List.map_append];exact HO1.out,HG1.out.below HBL.out HOwn.out hB⟩
      case measure => simp [intOf];omega
end Go.Proofs.YtlgaefenhfmjfaaDoor
