/- SemRIn, SemR1, SemR2. -/
import Derived.Test.YtcbfghcdbmlneaaPk8
import Derived.Test.YtcbfghcdbmlneaaPk14
import Derived.Test.YtcbfghcdbmlneaaPk3
import Derived.Test.YtcbfghcdbmlneaaPk16
import Derived.Test.YtcbfghcdbmlneaaProgRef5
namespace Go.Proofs.Ytcbfghcdbmlneaa
open Go.RowKit
def slV (l : List Nat) (j : Nat) : Value:=.int .i64 ((l.getD j 0 : Nat) : Int)
theorem uR (l : List Nat) (j : Nat) : (slV l j).oneCell' = true:=rfl
structure Rc where
  A : Option Addr
  cap : Nat
  svs : List Sv
  A2 : Option Addr
  cap2 : Nat
  sls : List (List Nat)
  len : Nat
  ow : List Nat
def rcC (q : Rc) : List Value:=.slice q.A q.len q.cap :: .slice q.A2 q.len q.cap2 :: q.ow.map natV
def rcA (q : Rc) : Value:=.agg (rcC q).toArray
theorem q8 (q : Rc) : rcA q = .agg (rcC q).toArray:=rfl
def Rc.cf (q : Rc) : M.Cf:=⟨List.zipWith (fun (s : Sv) l => ⟨s.stack,l⟩) q.svs q.sls,q.ow⟩
structure Rc.Ok (q : Rc) (w : World) (B : Nat) : Prop where
  row : Row svV w B q.A q.len q.svs
  slr : Recs 8 slV w B q.A2 q.len q.sls
  lc : q.len ≤ q.cap ∧ q.cap ≤ maxLen
  lc2 : q.len ≤ q.cap2 ∧ q.cap2 ≤ maxLen
  svs : ∀ x ∈ q.svs,x.Ok w B
theorem Rc.Ok.keep {q : Rc} {w w' : World} {B : Nat} (h : q.Ok w B) (hk : ∀ p : Addr,p.block < B → w'.cell? p = w.cell? p) : q.Ok w' B:=⟨h.row.keep hk,h.slr.keep hk,h.lc,h.lc2,fun x hx => (h.svs x hx).keep hk⟩
theorem Rc.Ok.below {q : Rc} {w w' : World} {B : Nat} (h : q.Ok w B) (hb : Below B w w') : q.Ok w' B:=h.keep fun _ hp => hb.cell hp
theorem Rc.Ok.more {q : Rc} {w : World} {B B' : Nat} (h : q.Ok w B) (hB : B ≤ B') : q.Ok w B':=⟨h.row.more hB,h.slr.more hB,h.lc,h.lc2,fun x hx => (h.svs x hx).more hB⟩
theorem Rc.Ok.len {q : Rc} {w : World} {B : Nat} (h : q.Ok w B) : q.cf.ths.length = q.len:=by
  unfold Rc.cf
  rw [List.length_zipWith,h.row.len,h.slr.len,Nat.min_self]
theorem Rc.Ok.thread {q : Rc} {w : World} {B : Nat} (h : q.Ok w B) {k : Nat} (hk : k < q.len) :
    ∃ ad x ad2 sl,q.A = some ad ∧ ad.block < B ∧ q.svs[k]? = some x ∧ x.Ok w B ∧ w.cell? (ad.add k) = some (.slice x.A x.len x.cap) ∧ q.A2 = some ad2 ∧ ad2.block < B ∧ q.sls[k]? = some sl ∧ M.th q.cf k = ⟨x.stack,sl⟩ ∧ x.stack.length = x.len ∧
      ∀ j,j < 8 → w.cell? (ad2.add (k * 8 + j)) = some (.int .i64 ((sl.getD j 0 : Nat) : Int)):=by
  obtain ⟨ad,x,e,hb,hx,hc⟩:=h.row.get hk
  obtain ⟨ad2,sl,e2,hb2,hsl,hc2⟩:=h.slr.get hk
  have hok:=h.svs x (List.mem_of_getElem? hx)
  refine ⟨ad,x,ad2,sl,e,hb,hx,hok,hc,e2,hb2,hsl,M.th_is ?_,hok.row.len,fun j hj => hc2 j hj⟩
  unfold Rc.cf
  rw [List.getElem?_zipWith,hx,hsl]
theorem l9 {q : Rc} (h : q.ow.length = 16) : (rcC q).length = 18:=by simp [rcC,h]
theorem lL (q : Rc) : ∀ u ∈ rcC q,u.oneCell' = true:=by
  intro u hu
  unfold rcC at hu
  rcases List.mem_cons.1 hu with rfl | hu
  · rfl
  rcases List.mem_cons.1 hu with rfl | hu
  · rfl
  · obtain ⟨x,_,rfl⟩:=List.mem_map.1 hu
    rfl
set_option maxRecDepth 100000 in
set_option maxHeartbeats 1600000 in
theorem qU (B : Nat) (q : Rc) (w : World) (hq : q.Ok w B) (hB : B ≤ w.heap.size) (_hl : q.len ≤ 1000) (t : Int) (ht : I64 t) (b : Bool) (hb : M.lives q.cf t = b) :
    Calls Try.prog 71 #[rcA q,.int .i64 t] w fun e w' => e = .returned (.bool b) ∧ Below w.heap.size w w':=by
  have hlen:=hq.len
  have hcap:=hq.lc.1;have hcm:=hq.lc.2
  unfold maxLen at hcm
  unfold I64 at ht
  by_cases h0 : 0 ≤ t
  · by_cases h1 : t < (q.len : Int)
    · obtain ⟨k,rfl⟩ : ∃ k : Nat,t = (k : Int):=⟨t.toNat,by omega⟩
      have hk : k < q.len:=by omega
      obtain ⟨ad,x,_,_,hA,hbl,hx,hok,hc0,_,_,_,hth,hsl,_⟩:=hq.thread hk
      rw [lives_in hth] at hb
      have hb2 : decide (0 < x.len) = b:=by rw [← hb,← hsl]
      have hxm:=hok.cm;have hxc:=hok.lc
      unfold maxLen at hxm
      have HC0:=kp hc0
      obtain ⟨n,hn⟩ : ∃ n,x.len = n:=⟨_,rfl⟩
      rw [hn] at hb2 hxc HC0
      have HE : Kept (rcC q = .slice (some ad) q.len q.cap :: .slice q.A2 q.len q.cap2 :: q.ow.map natV):=kp (by unfold rcC;rw [hA])
      have hbz : ad.block < w.heap.size:=by omega
      clear hq hb hx hok hth hsl hc0 hA hn hbl hlen
      unfold rcA
      rw [HE.out]
      cases b
      all_goals
        go_enter Try.func71,Try.ntmps71
        go_wp2_with ((with_reducible refine j6 rfl 63 (.tmp 0) rfl (.slice (some ad) q.len q.cap :: .slice q.A2 q.len q.cap2 :: q.ow.map natV) rfl ?_);intro g1 w1 hg1 hk1 hw1;have HW1:=kp hw1;have hf0:=hk1.cell 0;have hf1:=(hw1.cell (p:=ad.add k) (by rw [add_block];exact hbz)).trans HC0.out;simp only [List.getElem?_cons_zero] at hf0;clear hk1 hw1)
        go_ret
        exact ⟨rfl,HW1.out⟩
    · have hb0 : M.lives q.cf t = false:=JL (by omega)
      rw [hb0] at hb
      subst hb
      clear hq hlen hb0
      go_enter Try.func71,Try.ntmps71
      go_wp2_with ((with_reducible refine j6 rfl 63 (.tmp 0) rfl (rcC q) rfl ?_);intro g1 w1 hg1 hk1 hw1;have HW1:=kp hw1;have hf0:=hk1.cell 0;simp only [rcC,List.getElem?_cons_zero] at hf0;clear hk1 hw1)
      go_ret
      exact ⟨rfl,HW1.out⟩
  · have hb0 : M.lives q.cf t = false:=JL (by omega)
    rw [hb0] at hb
    subst hb
    clear hq hlen hb0
    go_enter Try.func71,Try.ntmps71
    go_wp2_with ((with_reducible refine j6 rfl 63 (.tmp 0) rfl (rcC q) rfl ?_);intro g1 w1 hg1 hk1 hw1;have HW1:=kp hw1;have hf0:=hk1.cell 0;simp only [rcC,List.getElem?_cons_zero] at hf0;clear hk1 hw1)
    go_ret
    exact ⟨rfl,HW1.out⟩
theorem YT : (Try.prog.info? 147).map (·.size) = some 2:=by kernel_rfl
theorem YS : (Try.prog.info? 147).map (·.zero) = some (some (.agg ([.int .i64 0,.int .i64 0] : List Value).toArray)):=by kernel_rfl
set_option maxRecDepth 100000 in
set_option maxHeartbeats 1600000 in
theorem xO (B : Nat) (p : Pg) (hf : Fine p) (q : Rc) (w : World) (hp : p.Ok w B) (hq : q.Ok w B) (hg : M.Good p q.cf) (hB : B ≤ w.heap.size) (k : Nat) (hlv : M.livesN q.cf k = true) (x : Nd) (hx : M.node p q.cf k = x) :
    Calls Try.prog 72 #[rcA q,pgA p,.int .i64 (k : Int)] w fun e w' => e = .returned (ndA x) ∧ Below w.heap.size w w':=by
  have h8 : q.len ≤ 8:=by rw [← hq.len];exact hg.most
  have hkl : k < q.len:=by rw [← hq.len];exact M.lives_lt hlv
  obtain ⟨ad,sv,_,_,hA,hadB,hsv,hok,hc0,_,_,_,hth,hsl,_⟩:=hq.thread hkl
  have hs0 : 0 < sv.len:=by
    unfold M.livesN at hlv
    rw [hth,decide_eq_true_eq] at hlv
    rw [← hsl];exact hlv
  obtain ⟨ad2,hA2,hadB2,hl0,hl1⟩:=hok.last hs0
  obtain ⟨fn,hfn,hfi,hfx⟩:=M.node_is hg hlv
  rw [hx,hth] at hfx
  rw [hth] at hfn
  have hlen16 : sv.len ≤ 1000:=by
    have h1:=M.high hf hp.row.len hg (x:=M.th q.cf k) (M.th_mem (M.lives_lt hlv))
    have h2:=hf.counts.f
    rw [hth] at h1
    have h4 : sv.stack.length ≤ p.fns.length:=h1
    omega
  obtain ⟨F,hF⟩ : ∃ F,(M.top sv.stack).1 = F:=⟨_,rfl⟩
  obtain ⟨N,hN⟩ : ∃ N,(M.top sv.stack).2 = N:=⟨_,rfl⟩
  have hfn2 : p.fns[F]? = some fn:=by rw [← hF];exact hfn
  have hfx2 : fn.nodes[N]? = some x:=by rw [← hN];exact hfx
  rw [hF] at hl0;rw [hN] at hl1
  have hpl:=hp.row.len
  have hfl : F < p.len:=by rw [← hpl];exact (List.getElem?_eq_some_iff.1 hfn2).1
  obtain ⟨adp,fn',hAp,hadp,hfn',hfok,hfc⟩:=hp.fn hfl
  rw [hfn2] at hfn';cases hfn'
  have hnl0:=hfok.nodes.1.len
  have hnl : N < fn.len:=by rw [← hnl0];exact (List.getElem?_eq_some_iff.1 hfx2).1
  obtain ⟨adn,x',hAn,hadn,hx',hxok,hn0,hn1,hn2,hn3⟩:=hfok.nodes.get hnl
  rw [hfx2] at hx';cases hx'
  rw [hA2] at hc0
  rw [hAn] at hfc
  have hpc:=hp.lc;have hpm:=hp.cm;have hfc2:=hfok.lc;have hfm:=hfok.cm;have hqc:=hq.lc.1;have hqm:=hq.lc.2;have hxc:=hok.lc;have hxm:=hok.cm
  unfold maxLen at hpm hfm hqm hxm
  have HEp : Kept (pgC p = [.int .i64 p.g,.int .i64 p.l,.int .i64 p.s,.slice (some adp) p.len p.cap]):=kp (by unfold pgC;rw [hAp])
  have HE : Kept (rcC q = .slice (some ad) q.len q.cap :: .slice q.A2 q.len q.cap2 :: q.ow.map natV):=kp (by unfold rcC;rw [hA])
  have HC0:=kp hc0;have HL0:=kp hl0;have HL1:=kp hl1;have HFc:=kp hfc;have HN0:=kp hn0;have HN1:=kp hn1;have HN2:=kp hn2;have HN3:=kp hn3
  obtain ⟨n,hn⟩ : ∃ n,sv.len = n:=⟨_,rfl⟩
  obtain ⟨cp,hcp⟩ : ∃ cp,sv.cap = cp:=⟨_,rfl⟩
  rw [hn] at HC0 HL0 HL1 hs0 hlen16 hxc
  rw [hcp] at HC0 hxc hxm
  obtain ⟨mm,rfl⟩ : ∃ mm,n = mm + 1:=⟨n - 1,by omega⟩
  rw [Nat.add_sub_cancel] at HL0 HL1
  clear hp hq hg hf hc0 hl0 hl1 hfn hfx hfn2 hfx2 hF hN hx hsv hok hth hsl hA hA2 hfi hn hcp hfok hfc hn0 hn1 hn2 hn3 hAp hAn hxok hlv hpl hnl0
  rw [q8,jL]
  go_enter Try.func72,Try.ntmps72
  go_wp2_with (first
    | ((with_reducible refine j6 rfl 63 (.tmp 0) rfl (rcC q) rfl ?_);intro g1 w1 hg1 hk1 hw1;have HK1:=kp hk1;have HW1:=kp hw1;have hs1:=hw1.size;have hl1:=hk1.lt;clear hk1 hw1)
    | ((with_reducible refine j6 rfl 46 (.tmp 1) rfl (pgC p) rfl ?_);intro g2 w2 hg2 hk2 hw2;have HK12:=kp (HK1.out.below hw2 hl1);have HK2:=kp hk2;have HW2:=kp (HW1.out.trans (hw2.mono hs1));have hs2:=HW2.out.size;have hl12:=HK12.out.lt;have hl2:=hk2.lt;clear hk2 hw2)
    | ((with_reducible show Sl 6);go_must (refine j7 rfl 97 rfl (ndC ⟨0,0,0,0⟩) l0 ?_);intro g3 w3 hg3 hk3 hw3
       have HK3:=kp hk3;have HK13:=kp (HK12.out.below hw3 hl12);have HK23:=kp (HK2.out.below hw3 hl2);have HW3:=kp (HW2.out.trans (hw3.mono hs2));have hs3:=HW3.out.size;have hl3:=hk3.lt;have hl23:=HK23.out.lt
       have HG3 : Kept (w.heap.size ≤ g3):=kp (by omega)
       have hc:=HK13.out.cell 0
       rw [HE.out,List.getElem?_cons_zero] at hc
       have hcs:=(HW3.out.cell (p:=ad.add k) (by rw [add_block];omega)).trans HC0.out
       have hf0:=(HW3.out.cell (p:=ad2.add (mm * 2)) (by rw [add_block];omega)).trans HL0.out
       have hf1:=(HW3.out.cell (p:=⟨(ad2.add (mm * 2)).block,(ad2.add (mm * 2)).off + 1,none⟩) (by show (ad2.add (mm * 2)).block < _;rw [add_block];omega)).trans HL1.out
       clear hk3 hw3)
    | ((with_reducible show Sl 8);go_must (refine j7 rfl 147 rfl _ YS ?_);intro g4 w4 hg4 hk4 hw4;have HK4:=kp hk4;have HW4:=kp (HW3.out.trans (hw4.mono hs3));have HK34:=kp (HK3.out.below hw4 hl3);have HK24a:=kp (HK23.out.below hw4 hl23);have hs4:=HW4.out.size;have HNe : Kept (g4 ≠ g3 ∧ g4 ≠ g2 ∧ w.heap.size ≤ g4):=kp (by omega);clear hk4 hw4 hc hcs hf0 hf1)
    | ((with_reducible show Sn);(refine j5 rfl 147 (.tmp 8) (.tmp 19) rfl g4 [.int .i64 (F : Int),.int .i64 (N : Int)] rfl rfl _ _ HK4.out YT rfl (by intro u hu;simp at hu;rcases hu with rfl | rfl <;> rfl) ?_);intro w8 hk8 hg8 hs8'
       have HK8:=kp hk8;have HW8:=kp (HW4.out.grown hg8 HW4.out.size (fun k e => by cases e;exact HNe.out.2.2));have HK38:=kp (HK34.out.grown hg8 (fun e => by cases e;exact HNe.out.1 rfl));have HK24:=kp (HK24a.out.grown hg8 (fun e => by cases e;exact HNe.out.2.1 rfl));clear hk8 hg8 hs8'))
  have hs8:=HW8.out.size;have hd2:=HK24.out.lt;have hd8:=HK8.out.lt
  simp only [Q5]
  apply jH 10 (.is _ :: .is _ :: .is _ :: .is _ :: .is _ :: .is _ :: .is _ :: .is _ :: .is _ :: .is (ndA x) :: [])
    [[],[(0,20)],[],[(2,22)],[(1,21),(3,23)],[(4,24)],[],[(6,26)],[(5,25),(7,27)],[(8,28)],[(9,29)]]
    [(0,20),(1,21),(2,22),(3,23),(4,24),(5,25),(6,26),(7,27),(8,28),(9,29)] (by kernel_rfl) (by kernel_rfl) (by kernel_rfl) (by kernel_rfl) (by kernel_rfl)
  case hob =>
    refine ⟨?o0,?o1,?o2,?o3,?o4,?o5,?o6,?o7,?o8,?o9,trivial⟩
    case o0 => intro W hW;change wpList _ _ _ _ _ _;go_wp2;exact j0 rfl rfl rfl
    case o1 =>
      intro W hW;rintro _ rfl;change wpList _ _ _ _ _ _
      have hc:=(HK24.out.below hW hd2).cell 3
      rw [HEp.out] at hc
      simp only [List.getElem?_cons_zero,List.getElem?_cons_succ] at hc
      go_wp2;exact j0 rfl rfl rfl
    case o2 => intro W hW;change wpList _ _ _ _ _ _;go_wp2;exact j0 rfl rfl rfl
    case o3 =>
      intro W hW;rintro _ rfl;change wpList _ _ _ _ _ _
      have hc:=(HK8.out.below hW hd8).cell 0
      simp only [List.getElem?_cons_zero] at hc
      go_wp2;exact j0 rfl rfl rfl
    case o4 => intro W hW;rintro _ rfl;rintro _ rfl;change wpList _ _ _ _ _ _;go_wp2;exact j0 rfl rfl rfl
    case o5 =>
      intro W hW;rintro _ rfl;change wpList _ _ _ _ _ _
      have hc:=((HW8.out.trans (hW.mono hs8)).cell (p:=adp.add F) (by rw [add_block];omega)).trans HFc.out
      go_wp2;exact j0 rfl rfl rfl
    case o6 => intro W hW;change wpList _ _ _ _ _ _;go_wp2;exact j0 rfl rfl rfl
    case o7 =>
      intro W hW;rintro _ rfl;change wpList _ _ _ _ _ _
      have hc:=(HK8.out.below hW hd8).cell 1
      simp only [List.getElem?_cons_zero,List.getElem?_cons_succ] at hc
      go_wp2;exact j0 rfl rfl rfl
    case o8 => intro W hW;rintro _ rfl;rintro _ rfl;change wpList _ _ _ _ _ _;go_wp2;exact j0 rfl rfl rfl
    case o9 =>
      intro W hW;rintro _ rfl;change wpList _ _ _ _ _ _
      have hb:=HW8.out.trans (hW.mono hs8)
      have hc0:=(hb.cell (p:=adn.add (N * 4)) (by rw [add_block];omega)).trans HN0.out
      have hc1:=(hb.cell (p:=⟨(adn.add (N * 4)).block,(adn.add (N * 4)).off + 1,none⟩) (by show (adn.add (N * 4)).block < _;rw [add_block];omega)).trans HN1.out
      have hc2:=(hb.cell (p:=⟨(adn.add (N * 4)).block,(adn.add (N * 4)).off + 2,none⟩) (by show (adn.add (N * 4)).block < _;rw [add_block];omega)).trans HN2.out
      have hc3:=(hb.cell (p:=⟨(adn.add (N * 4)).block,(adn.add (N * 4)).off + 3,none⟩) (by show (adn.add (N * 4)).block < _;rw [add_block];omega)).trans HN3.out
      clear hb
      go_wp2;exact j0 rfl rfl rfl
  case hend =>
    intro W hW;rintro _ rfl;rintro _ rfl;rintro _ rfl;rintro _ rfl;rintro _ rfl;rintro _ rfl;rintro _ rfl;rintro _ rfl;rintro _ rfl;rintro _ rfl
    simp only [given,jJ,List.set,List.drop]
    have HWw:=kp (HW8.out.trans (hW.mono hs8))
    have hsw:=HWw.out.size
    have HK3w:=kp (HK38.out.below hW HK38.out.lt)
    clear hW
    go_wp2_with (first
      | ((with_reducible show Sn);go_must (refine j5 rfl 97 (.tmp 6) (.tmp 29) rfl g3 (ndC x) rfl rfl _ _ HK3w.out jO rfl (l5 x) ?_);intro w9 hk9 hg9 hs9;have HK9:=kp hk9;have HW9:=kp (HWw.out.grown hg9 HWw.out.size (fun k e => by cases e;exact HG3.out));clear hk9 hg9 hs9)
      | ((with_reducible show bodyPost _ _ _ _ _ _);exact bodyPost_ret (jP (P:=Try.prog) (fn:=Try.f72) rfl _ _ g3 97 _ _ rfl HK9.out Try.underlying97 rfl jO) rfl ⟨rfl,HW9.out⟩))
end Go.Proofs.Ytcbfghcdbmlneaa
