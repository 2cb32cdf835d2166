/- SemP5, SemP6, RowsApp, SemPc, SemPd. -/
import Derived.Test.YtfiafbflhglpeaaDoorPk13
import Derived.Test.YtfiafbflhglpeaaDoorPk12
import Derived.Test.YtfiafbflhglpeaaDoorPk3
import Derived.Test.YtfiafbflhglpeaaDoorPk11
import Derived.Great.BuildSlice
import Derived.Lib.SliceRun
namespace Go.Proofs.YtfiafbflhglpeaaDoor
open Go.RowKit
def atNd (p : Pg) (c : M.Cf) (t : Int) : Nd:=if M.lives c t = true then M.node p c t.toNat else ⟨0,0,0,0⟩
theorem jM (q : Pc) : ∀ u ∈ pcC q,u.oneCell' = true:=by
  intro u hu
  unfold pcC at hu
  rcases List.mem_cons.1 hu with rfl | hu
  · rfl
  · obtain ⟨x,_,rfl⟩:=List.mem_map.1 hu
    rfl
theorem lE {q : Pc} (h : q.ow.length = 16) : (pcC q).length = 17:=by simp [pcC,h]
theorem qO (q : Pc) : pcA q = .agg (pcC q).toArray:=rfl
set_option maxRecDepth 100000 in
set_option maxHeartbeats 1600000 in
theorem qY (B : Nat) (p : Pg) (hf : Fine p) (q : Pc) (w : World) (hp : p.Ok w B) (hq : q.Ok w B) (hg : M.Good p q.cf) (hB : B ≤ w.heap.size) (t : Int) (ht : I64 t) (b : Bool) (hb : M.lives q.cf t = b) (x : Nd) (hx : atNd p q.cf t = x) :
    Calls Tryd.prog 17 #[pcA q,pgA p,.int .i64 t] w fun e w' => e = .returned (.tuple #[ndA x,.bool b]) ∧ Below w.heap.size w w':=by
  have h8 : q.len ≤ 8:=by rw [← hq.len];exact hg.most
  have hq17 : (pcC q).length = 17:=lE hg.owns
  have HQ17:=kp hq17
  have HP:=kp hp;have HQ:=kp hq;have HT:=kp ht;have HB:=kp hb
  cases b
  · have HX : Kept (x = ⟨0,0,0,0⟩):=kp (by rw [← hx];unfold atNd;rw [hb];rfl)
    rw [HX.out]
    clear hp hq ht hb hx hg hf hq17
    rw [qO,jN]
    go_enter Tryd.func17,Tryd.ntmps17
    go_wp2_with (first
      | ((with_reducible refine j4 rfl 47 (.tmp 0) rfl (pcC q) rfl ?_);intro g1 w1 hg1 hk1 hw1;have HK1:=kp hk1;have HW1:=kp hw1;have hs1:=hw1.size;have hl1:=hk1.lt;clear hk1 hw1)
      | ((with_reducible refine j4 rfl 24 (.tmp 1) rfl (pgC p) rfl ?_);intro g2 w2 hg2 hk2 hw2;have HK12:=kp (HK1.out.below hw2 hl1);have HW2:=kp (HW1.out.trans (hw2.mono hs1));have hs2:=HW2.out.size;have hl12:=HK12.out.lt;clear hk2 hw2)
      | ((with_reducible show Sl 6);go_must (refine j7 rfl 41 rfl (ndC ⟨0,0,0,0⟩) jI ?_);intro g3 w3 hg3 hk3 hw3
         have HK3:=kp hk3;have HK13:=kp (HK12.out.below hw3 hl12);have HW3:=kp (HW2.out.trans (hw3.mono hs2));have hs3:=HW3.out.size;have hl3:=hk3.lt;clear hk3 hw3)
      | ((with_reducible show Sl 8);go_must (refine j6 rfl 47 (.tmp 3) rfl g1 rfl _ (pcC q) _ HK13.out Tryd.underlying47 rfl (by rw [HQ17.out];exact j9) ?_))
      | (go_at_call 31;go_must (refine (zA B q w3 (HQ.out.below (HW3.out.mono hB)) (by omega) (by omega) t HT.out false HB.out).mono ?_);rintro e w4 ⟨rfl,hb4⟩
         have HW4:=kp (HW3.out.trans (hb4.mono hs3));have HK4:=kp (HK3.out.below hb4 hl3);have hs4:=HW4.out.size;clear hb4)
      | ((with_reducible show Sn);go_must (refine j5 rfl 41 (.tmp 6) (.tmp 12) rfl g3 (ndC ⟨0,0,0,0⟩) rfl rfl _ _ HK4.out jF rfl (jK _) ?_);intro w8 hk8 hg8 hs8;have HK8:=kp hk8;have HW8:=kp (HW4.out.grown hg8 hs4 (fun k e => by cases e;omega));clear hk8 hg8)
      | ((with_reducible show bodyPost _ _ _ _ _ _);exact bodyPost_ret (lH (P:=Tryd.prog) (fn:=Tryd.f17) rfl _ _ g3 41 _ _ _ rfl rfl HK8.out Tryd.underlying41 rfl jF) rfl ⟨rfl,HW8.out⟩))
  · obtain ⟨k,rfl⟩ : ∃ k : Nat,t = (k : Int):=⟨t.toNat,by
      unfold M.lives at hb
      rw [Bool.and_eq_true,decide_eq_true_eq] at hb
      omega⟩
    have hb2:=hb
    rw [M.lives_nat] at hb2
    have hkl : k < q.len:=by rw [← hq.len];exact M.lives_lt hb2
    have hxn : M.node p q.cf k = x:=by rw [← hx];unfold atNd;rw [hb];rfl
    obtain ⟨ad,th,hA,hadB,hth,hsok,hthc,hsl,hc0,_⟩:=hq.thread hkl
    have hs0 : 0 < th.sv.len:=by
      unfold M.livesN at hb2
      rw [hthc,decide_eq_true_eq] at hb2
      rw [← hsl];exact hb2
    obtain ⟨ad2,hA2,hadB2,hl0,hl1⟩:=hsok.last hs0
    obtain ⟨fn,hfn,hfi,hfx⟩:=M.node_is hg hb2
    rw [hxn,hthc] at hfx
    rw [hthc] at hfn
    have hlen16 : th.sv.len ≤ 1000:=by
      have h1:=M.high hf hp.row.len hg (x:=tvT th) (List.mem_map_of_mem (List.mem_of_getElem? hth))
      have h2:=hf.counts.f
      have h3 : (tvT th).stack.length = th.sv.len:=hsl
      omega
    rw [hA2] at hc0
    obtain ⟨F,hF⟩ : ∃ F,(M.top (tvT th).stack).1 = F:=⟨_,rfl⟩
    obtain ⟨N,hN⟩ : ∃ N,(M.top (tvT th).stack).2 = N:=⟨_,rfl⟩
    rw [hF] at hfn
    rw [hN] at hfx
    have hl0' : w.cell? (ad2.add ((th.sv.len - 1) * 2)) = some (.int .i64 (F : Int)):=by rw [← hF];exact hl0
    have hl1' : w.cell? ⟨(ad2.add ((th.sv.len - 1) * 2)).block,(ad2.add ((th.sv.len - 1) * 2)).off + 1,none⟩ = some (.int .i64 (N : Int)):=by rw [← hN];exact hl1
    have HC0:=kp hc0;have HL0:=kp hl0';have HL1:=kp hl1';have HFn:=kp hfn;have HFx:=kp hfx;have HFine:=kp hf
    have hqc:=hq.lc;have hqm:=hq.cm;have hxc:=hsok.lc;have hxm:=hsok.cm
    unfold maxLen at hqm hxm
    obtain ⟨n,hn⟩ : ∃ n,th.sv.len = n:=⟨_,rfl⟩
    obtain ⟨cp,hcp⟩ : ∃ cp,th.sv.cap = cp:=⟨_,rfl⟩
    rw [hn] at HC0 HL0 HL1 hs0 hlen16 hxc
    rw [hcp] at HC0 hxc hxm
    have HE : Kept (pcC q = .slice (some ad) q.len q.cap :: q.ow.map natV):=kp (by unfold pcC;rw [hA])
    clear hp hq ht hb hx hg hf hq17 hc0 hl0 hl1 hl0' hl1' hfn hfx hF hN hb2 hxn hth hsok hthc hsl hA hA2 hfi hn hcp
    rw [qO,jN]
    go_enter Tryd.func17,Tryd.ntmps17
    go_wp2_with (first
      | ((with_reducible refine j4 rfl 47 (.tmp 0) rfl (pcC q) rfl ?_);intro g1 w1 hg1 hk1 hw1;have HK1:=kp hk1;have HW1:=kp hw1;have hs1:=hw1.size;have hl1:=hk1.lt;clear hk1 hw1)
      | ((with_reducible refine j4 rfl 24 (.tmp 1) rfl (pgC p) rfl ?_);intro g2 w2 hg2 hk2 hw2;have HK12:=kp (HK1.out.below hw2 hl1);have HK2:=kp hk2;have HW2:=kp (HW1.out.trans (hw2.mono hs1));have hs2:=HW2.out.size;have hl12:=HK12.out.lt;have hl2:=hk2.lt;clear hk2 hw2)
      | ((with_reducible show Sl 6);go_must (refine j7 rfl 41 rfl (ndC ⟨0,0,0,0⟩) jI ?_);intro g3 w3 hg3 hk3 hw3
         have HK3:=kp hk3;have HK13:=kp (HK12.out.below hw3 hl12);have HK23:=kp (HK2.out.below hw3 hl2);have HW3:=kp (HW2.out.trans (hw3.mono hs2));have hs3:=HW3.out.size;have hl3:=hk3.lt;clear hk3 hw3)
      | ((with_reducible show Sl 8);go_must (refine j6 rfl 47 (.tmp 3) rfl g1 rfl _ (pcC q) _ HK13.out Tryd.underlying47 rfl (by rw [HQ17.out];exact j9) ?_))
      | (go_at_call 31;go_must (refine (zA B q w3 (HQ.out.below (HW3.out.mono hB)) (by omega) (by omega) (k : Int) HT.out true HB.out).mono ?_);rintro e w4 ⟨rfl,hb4⟩
         have HW4:=kp (HW3.out.trans (hb4.mono hs3));have HK34:=kp (HK3.out.below hb4 hl3);have HK14:=kp (HK13.out.below hb4 HK13.out.lt);have HK24:=kp (HK23.out.below hb4 HK23.out.lt);have hs4:=HW4.out.size;clear hb4))
    have hd1:=HK14.out.lt;have hd2:=HK24.out.lt
    apply jG 11 (.is (pgA p) :: .is _ :: .is _ :: .is _ :: .is _ :: .is _ :: .is _ :: .is (.agg #[.int .i64 (F : Int),.int .i64 (N : Int)]) :: .is (.tuple #[ndA x,.bool true]) :: .is _ :: .is _ :: [])
      [[],[],[(1,14)],[],[(2,15),(3,16)],[(4,17)],[(5,18)],[(6,19)],[(0,13),(7,20)],[(8,21)],[(8,21)],[(9,22)],[(10,23)]]
      [(0,13),(1,14),(2,15),(3,16),(4,17),(5,18),(6,19),(7,20),(8,21),(9,22),(10,23)] (by kernel_rfl) (by kernel_rfl) (by kernel_rfl) (by kernel_rfl) (by kernel_rfl)
    case hob =>
      refine ⟨?o0,?o1,?o2,?o3,?o4,?o5,?o6,?o7,?o8,?o9,?o10,trivial⟩
      case o0 =>
        intro W hW;change wpList _ _ _ _ _ _
        obtain ⟨hc0,hc1,hc2,hc3⟩:=j8 (HK24.out.below hW hd2)
        go_wp2;exact j3 rfl rfl rfl
      case o1 => intro W hW;change wpList _ _ _ _ _ _;go_wp2;exact j3 rfl rfl rfl
      case o2 =>
        intro W hW;rintro _ rfl;change wpList _ _ _ _ _ _
        have hc:=(HK14.out.below hW hd1).cell 0
        rw [HE.out,List.getElem?_cons_zero] at hc
        go_wp2;exact j3 rfl rfl rfl
      case o3 => intro W hW;change wpList _ _ _ _ _ _;go_wp2;exact j3 rfl rfl rfl
      case o4 => intro W hW;rintro _ rfl;rintro _ rfl;change wpList _ _ _ _ _ _;go_wp2;exact j3 rfl rfl rfl
      case o5 =>
        intro W hW;rintro _ rfl;change wpList _ _ _ _ _ _
        have hc:=((HW4.out.trans (hW.mono hs4)).cell (p:=ad.add (k * 9)) (by rw [add_block];omega)).trans HC0.out
        have HC:=kp (vE (ad.add (k * 9)) ad2 n cp W hs0 hlen16 hc)
        clear hc
        go_wp2_with fail
        refine HC.out.mono ?_
        rintro e w2 ⟨rfl,m,rfl⟩
        go_wp2
        exact jE rfl rfl rfl (below_drewN (Below.refl _ _) m) rfl
      case o6 => intro W hW;rintro _ rfl;change wpList _ _ _ _ _ _;go_wp2;exact j3 rfl rfl rfl
      case o7 =>
        intro W hW;rintro _ rfl;change wpList _ _ _ _ _ _
        have hb:=HW4.out.trans (hW.mono hs4)
        have hc0:=(hb.cell (p:=ad2.add ((n - 1) * 2)) (by rw [add_block];omega)).trans HL0.out
        have hc1:=(hb.cell (p:=⟨(ad2.add ((n - 1) * 2)).block,(ad2.add ((n - 1) * 2)).off + 1,none⟩) (by show (ad2.add ((n - 1) * 2)).block < _;rw [add_block];omega)).trans HL1.out
        clear hb
        go_wp2;exact j3 rfl rfl rfl
      case o8 =>
        intro W hW;rintro _ rfl;rintro _ rfl;change wpList _ _ _ _ _ _
        have hb:=HW4.out.trans (hW.mono hs4)
        have HC:=kp (LI B p HFine.out F N fn x HFn.out HFx.out W (HP.out.below (hb.mono hB)) (by have:=hb.size;omega))
        clear hb
        go_wp2_with fail
        refine HC.out.mono ?_
        rintro e w2 ⟨rfl,hb2⟩
        have HB2:=kp hb2;clear hb2
        go_wp2
        exact jE rfl rfl rfl HB2.out rfl
      case o9 => intro W hW;rintro _ rfl;change wpList _ _ _ _ _ _;go_wp2;exact j3 rfl rfl rfl
      case o10 => intro W hW;rintro _ rfl;change wpList _ _ _ _ _ _;go_wp2;exact j3 rfl rfl rfl
    case hend =>
      intro W hW;rintro _ rfl;rintro _ rfl;rintro _ rfl;rintro _ rfl;rintro _ rfl;rintro _ rfl;rintro _ rfl;rintro _ rfl;rintro _ rfl;rintro _ rfl;rintro _ rfl
      simp only [given,jL,List.set,List.drop]
      have HWw:=kp (HW4.out.trans (hW.mono hs4))
      have hsw:=HWw.out.size
      have HK3w:=kp (HK34.out.below hW HK34.out.lt)
      clear hW
      go_wp2_with (first
        | ((with_reducible show Sn);go_must (refine j5 rfl 41 (.tmp 6) (.tmp 22) rfl g3 (ndC x) rfl rfl _ _ HK3w.out jF rfl (jK x) ?_);intro w8 hk8 hg8 hs8;have HK8:=kp hk8;have HW8:=kp (HWw.out.grown hg8 hsw (fun k e => by cases e;omega));clear hk8 hg8)
        | ((with_reducible show bodyPost _ _ _ _ _ _);exact bodyPost_ret (lH (P:=Tryd.prog) (fn:=Tryd.f17) rfl _ _ g3 41 _ _ _ rfl rfl HK8.out Tryd.underlying41 rfl jF) rfl ⟨rfl,HW8.out⟩))
theorem Q5 {p : Pg} {c : M.Cf} {t : Int} (h : M.lives c t = false) : M.enabled p c t = false:=by
  cases he : M.enabled p c t with
  | false => rfl
  | true =>
    obtain ⟨h0,h1⟩:=M.enabled_split he
    have h2:=M.enabled_lives h1
    unfold M.lives at h
    rw [h2,decide_eq_true h0] at h
    cases h
theorem Q6 {p : Pg} {c : M.Cf} {k : Nat} {x : Nd} (h : M.lives c (k : Int) = true) (hx : M.node p c k = x) : M.enabled p c (k : Int) =
    (if x.kind = 3 then decide (c.owners.getD x.arg.toNat 0 = 0) else if x.kind = 6 then !M.lives c (((M.th c k).slots.getD x.arg.toNat 0 : Int) - 1) else if x.kind = 5 then decide (c.ths.length < 8) else true):=by
  unfold M.enabled M.enabledN
  rw [M.lives_nat] at h
  rw [Int.toNat_natCast,h,hx]
  simp
theorem y7 {p : Pg} {c : M.Cf} {k : Nat} {x : Nd} (h : M.lives c (k : Int) = true) (hx : M.node p c k = x) : atNd p c (k : Int) = x:=by
  unfold atNd;rw [h,← hx];rfl
set_option maxRecDepth 100000 in
set_option maxHeartbeats 1600000 in
theorem xP (B : Nat) (p : Pg) (hf : Fine p) (q : Pc) (w : World) (hp : p.Ok w B) (hq : q.Ok w B) (hg : M.Good p q.cf) (hB : B ≤ w.heap.size) (t : Int) (ht : I64 t) (b : Bool) (hb : M.enabled p q.cf t = b) :
    Calls Tryd.prog 19 #[pcA q,pgA p,.int .i64 t] w fun e w' => e = .returned (.bool b) ∧ Below w.heap.size w w':=by
  have h8 : q.len ≤ 8:=by rw [← hq.len];exact hg.most
  have hq17 : (pcC q).length = 17:=lE hg.owns
  have HQ17:=kp hq17
  have HP:=kp hp;have HQ:=kp hq;have HT:=kp ht;have HG:=kp hg;have HFine:=kp hf
  have hqc:=hq.lc;have hqm:=hq.cm
  unfold maxLen at hqm
  cases hlv : M.lives q.cf t
  · have hbf:=Q5 (p:=p) hlv
    rw [hbf] at hb
    subst hb
    have HLv:=kp hlv
    have HX : Kept (atNd p q.cf t = ⟨0,0,0,0⟩):=kp (by unfold atNd;rw [hlv];rfl)
    clear hp hq ht hg hf hq17 hlv hbf
    rw [qO,jN]
    go_enter Tryd.func19,Tryd.ntmps19
    go_wp2_with (first
      | ((with_reducible refine j4 rfl 47 (.tmp 0) rfl (pcC q) rfl ?_);intro g1 w1 hg1 hk1 hw1;have HK1:=kp hk1;have HW1:=kp hw1;have hs1:=hw1.size;have hl1:=hk1.lt;clear hk1 hw1)
      | ((with_reducible refine j4 rfl 24 (.tmp 1) rfl (pgC p) rfl ?_);intro g2 w2 hg2 hk2 hw2;have HK12:=kp (HK1.out.below hw2 hl1);have HK2:=kp hk2;have HW2:=kp (HW1.out.trans (hw2.mono hs1));have hs2:=HW2.out.size;have hl12:=HK12.out.lt;have hl2:=hk2.lt;clear hk2 hw2)
      | ((with_reducible show Sl 10);go_must (refine j6 rfl 47 (.tmp 3) rfl g1 rfl _ (pcC q) _ HK12.out Tryd.underlying47 rfl (by rw [HQ17.out];exact j9) ?_))
      | ((with_reducible show Sl 11);go_must (refine j6 rfl 24 (.tmp 4) rfl g2 rfl _ (pgC p) _ HK2.out Tryd.underlying24 rfl jH ?_))
      | (go_at_call 17;go_must (refine (qY B p HFine.out q w2 (HP.out.below (HW2.out.mono hB)) (HQ.out.below (HW2.out.mono hB)) HG.out (by omega) (t) HT.out false HLv.out (⟨0,0,0,0⟩) HX.out).mono ?_);rintro e w4 ⟨rfl,hb4⟩
         have HW4:=kp (HW2.out.trans (hb4.mono hs2));have HK14:=kp (HK12.out.below hb4 hl12);have hl14:=HK14.out.lt;have hs4:=HW4.out.size;clear hb4)
      | ((with_reducible show Sl 7);go_must (refine j7 rfl 41 rfl (ndC ⟨0,0,0,0⟩) jI ?_);intro g3 w5 hg3 hk5 hw5
         have HK35:=kp hk5;have HK15:=kp (HK14.out.below hw5 hl14);have HW5:=kp (HW4.out.trans (hw5.mono hs4));have hs5:=HW5.out.size;have hl35:=hk5.lt;clear hk5 hw5)
      | ((with_reducible show Sn);go_must (refine j5 rfl 41 (.tmp 7) (.tmp 14) rfl g3 (ndC (⟨0,0,0,0⟩)) rfl rfl _ _ HK35.out jF rfl (jK _) ?_);intro w6 hk6 hg6 hs6
         have HK16:=kp (HK15.out.grown hg6 (fun e => by cases e;omega));have HK36:=kp hk6;have HW6:=kp (HW5.out.grown hg6 hs5 (fun k e => by cases e;omega));clear hg6;clear hk6))
    go_ret
    exact ⟨rfl,HW6.out⟩
  · obtain ⟨k,rfl⟩ : ∃ k : Nat,t = (k : Int):=⟨t.toNat,by
      unfold M.lives at hlv
      rw [Bool.and_eq_true,decide_eq_true_eq] at hlv
      omega⟩
    obtain ⟨x,hx⟩ : ∃ x,M.node p q.cf k = x:=⟨_,rfl⟩
    have hlv2:=hlv
    rw [M.lives_nat] at hlv2
    have hkl : k < q.len:=by rw [← hq.len];exact M.lives_lt hlv2
    obtain ⟨fn,hfn,_,_⟩:=M.node_is hg hlv2
    have hfit:=M.node_fit hf hg hlv2 hfn
    rw [hx] at hfit
    have HLv:=kp hlv
    have HX:=kp (y7 hlv hx)
    rw [Q6 hlv hx] at hb
    obtain ⟨ad,th,hA,hadB,hth,hsok,hthc,hsl,hc0,hcs⟩:=hq.thread hkl
    rw [hthc] at hb
    obtain ⟨a,ha⟩ : ∃ a : Nat,x.arg = (a : Int):=⟨x.arg.toNat,by have:=hfit.arg;omega⟩
    rw [ha,Int.toNat_natCast] at hb
    have h16:=hg.owns
    have HE : Kept (pcC q = .slice (some ad) q.len q.cap :: q.ow.map natV):=kp (by unfold pcC;rw [hA])
    have hEx : Kept (ndC x = [.int .i64 x.kind,.int .i64 (a : Int),.int .i64 x.next,.int .i64 x.alt]):=kp (by unfold ndC;rw [ha])
    by_cases k3 : x.kind = 3
    · rw [if_pos k3] at hb
      have hal:=hfit.lock (.inl k3)
      have HO : Kept ((pcC q)[1 + a]? = some (.int .i64 (q.ow.getD a 0 : Int))):=kp (by rw [HE.out,show 1 + a = a + 1 by omega,List.getElem?_cons_succ];exact vM h16 (by omega))
      have HB : Kept (((q.ow.getD a 0 : Int) == 0) = b):=kp (by rw [← hb,Bool.eq_iff_iff,beq_iff_eq,decide_eq_true_eq];show _ ↔ q.ow.getD a 0 = 0;omega)
      obtain ⟨o,ho⟩ : ∃ o,q.ow.getD a 0 = o:=⟨_,rfl⟩
      rw [ho] at HO HB
      have e3 : (x.kind == 3) = true:=by rw [beq_iff_eq];exact k3
      have ha16 : a < 16:=by omega
      clear hp hq ht hg hf hq17 hlv hlv2 hb hx hfit hth hsok hthc hsl hc0 hcs ha hA hfn ho k3 hal
      rw [qO,jN]
      go_enter Tryd.func19,Tryd.ntmps19
      go_wp2_with (first
        | ((with_reducible refine j4 rfl 47 (.tmp 0) rfl (pcC q) rfl ?_);intro g1 w1 hg1 hk1 hw1;have HK1:=kp hk1;have HW1:=kp hw1;have hs1:=hw1.size;have hl1:=hk1.lt;clear hk1 hw1)
        | ((with_reducible refine j4 rfl 24 (.tmp 1) rfl (pgC p) rfl ?_);intro g2 w2 hg2 hk2 hw2;have HK12:=kp (HK1.out.below hw2 hl1);have HK2:=kp hk2;have HW2:=kp (HW1.out.trans (hw2.mono hs1));have hs2:=HW2.out.size;have hl12:=HK12.out.lt;have hl2:=hk2.lt;clear hk2 hw2)
        | ((with_reducible show Sl 10);go_must (refine j6 rfl 47 (.tmp 3) rfl g1 rfl _ (pcC q) _ HK12.out Tryd.underlying47 rfl (by rw [HQ17.out];exact j9) ?_))
        | ((with_reducible show Sl 11);go_must (refine j6 rfl 24 (.tmp 4) rfl g2 rfl _ (pgC p) _ HK2.out Tryd.underlying24 rfl jH ?_))
        | (go_at_call 17;go_must (refine (qY B p HFine.out q w2 (HP.out.below (HW2.out.mono hB)) (HQ.out.below (HW2.out.mono hB)) HG.out (by omega) ((k : Int)) HT.out true HLv.out (x) HX.out).mono ?_);rintro e w4 ⟨rfl,hb4⟩
           have HW4:=kp (HW2.out.trans (hb4.mono hs2));have HK14:=kp (HK12.out.below hb4 hl12);have hl14:=HK14.out.lt;have hs4:=HW4.out.size;clear hb4)
        | ((with_reducible show Sl 7);go_must (refine j7 rfl 41 rfl (ndC ⟨0,0,0,0⟩) jI ?_);intro g3 w5 hg3 hk5 hw5
           have HK35:=kp hk5;have HK15:=kp (HK14.out.below hw5 hl14);have HW5:=kp (HW4.out.trans (hw5.mono hs4));have hs5:=HW5.out.size;have hl35:=hk5.lt;clear hk5 hw5)
        | ((with_reducible show Sn);go_must (refine j5 rfl 41 (.tmp 7) (.tmp 14) rfl g3 (ndC (x)) rfl rfl _ _ HK35.out jF rfl (jK _) ?_);intro w6 hk6 hg6 hs6
           have HK16:=kp (HK15.out.grown hg6 (fun e => by cases e;omega));have HK36:=kp hk6;have HW6:=kp (HW5.out.grown hg6 hs5 (fun k e => by cases e;omega));clear hg6
           rw [hEx.out] at hk6;have hx0:=hk6.cell 0;have hx1:=hk6.cell 1;simp only [List.getElem?_cons_zero,List.getElem?_cons_succ] at hx0 hx1;clear hk6
           have hc1:=(HK16.out.cell (1 + a)).trans HO.out))
      go_ret
      exact ⟨jS HB.out,HW6.out⟩
    rw [if_neg k3] at hb
    have e3 : (x.kind == 3) = false:=by rw [beq_eq_false_iff_ne];exact k3
    by_cases k6 : x.kind = 6
    · rw [if_pos k6] at hb
      have hal:=hfit.join k6
      have e6 : (x.kind == 6) = true:=by rw [beq_iff_eq];exact k6
      have ha8 : a < 8:=by omega
      obtain ⟨o,ho⟩ : ∃ o,(tvT th).slots.getD a 0 = o:=⟨_,rfl⟩
      rw [ho] at hb
      have hoc : w.cell? ⟨(ad.add (k * 9)).block,(ad.add (k * 9)).off + 1 + a,none⟩ = some (.int .i64 (o : Int)):=by
        rcases hcs a with h | h
        · rw [show (ad.add (k * 9)).off + 1 + a = (ad.add (k * 9)).off + (a + 1) by omega,h,← ho];rfl
        · omega
      have HOc:=kp hoc
      have ho8 : o ≤ 8:=by
        have h1:=hg.slot (tvT th) (List.mem_map_of_mem (List.mem_of_getElem? hth))
        have h2:=hg.eight (tvT th) (List.mem_map_of_mem (List.mem_of_getElem? hth))
        rw [← ho,List.getD_eq_getElem?_getD,List.getElem?_eq_getElem (by omega)]
        exact h1 _ (List.getElem_mem _)
      obtain ⟨bl,hbl⟩ : ∃ bl,M.lives q.cf ((o : Int) - 1) = bl:=⟨_,rfl⟩
      rw [hbl] at hb
      have HBl:=kp hbl
      have HI1 : Kept (I64 ((o : Int) - 1)):=kp (by unfold I64;omega)
      subst hb
      clear hp hq ht hg hf hq17 hlv hlv2 hx hfit hth hsok hthc hsl hc0 hcs ha hA hfn ho k3 hal hoc hbl k6
      rw [qO,jN]
      go_enter Tryd.func19,Tryd.ntmps19
      go_wp2_with (first
        | ((with_reducible refine j4 rfl 47 (.tmp 0) rfl (pcC q) rfl ?_);intro g1 w1 hg1 hk1 hw1;have HK1:=kp hk1;have HW1:=kp hw1;have hs1:=hw1.size;have hl1:=hk1.lt;clear hk1 hw1)
        | ((with_reducible refine j4 rfl 24 (.tmp 1) rfl (pgC p) rfl ?_);intro g2 w2 hg2 hk2 hw2;have HK12:=kp (HK1.out.below hw2 hl1);have HK2:=kp hk2;have HW2:=kp (HW1.out.trans (hw2.mono hs1));have hs2:=HW2.out.size;have hl12:=HK12.out.lt;have hl2:=hk2.lt;clear hk2 hw2)
        | ((with_reducible show Sl 10);go_must (refine j6 rfl 47 (.tmp 3) rfl g1 rfl _ (pcC q) _ HK12.out Tryd.underlying47 rfl (by rw [HQ17.out];exact j9) ?_))
        | ((with_reducible show Sl 11);go_must (refine j6 rfl 24 (.tmp 4) rfl g2 rfl _ (pgC p) _ HK2.out Tryd.underlying24 rfl jH ?_))
        | (go_at_call 17;go_must (refine (qY B p HFine.out q w2 (HP.out.below (HW2.out.mono hB)) (HQ.out.below (HW2.out.mono hB)) HG.out (by omega) ((k : Int)) HT.out true HLv.out (x) HX.out).mono ?_);rintro e w4 ⟨rfl,hb4⟩
           have HW4:=kp (HW2.out.trans (hb4.mono hs2));have HK14:=kp (HK12.out.below hb4 hl12);have hl14:=HK14.out.lt;have hs4:=HW4.out.size;clear hb4)
        | ((with_reducible show Sl 7);go_must (refine j7 rfl 41 rfl (ndC ⟨0,0,0,0⟩) jI ?_);intro g3 w5 hg3 hk5 hw5
           have HK35:=kp hk5;have HK15:=kp (HK14.out.below hw5 hl14);have HW5:=kp (HW4.out.trans (hw5.mono hs4));have hs5:=HW5.out.size;have hl35:=hk5.lt;clear hk5 hw5)
        | ((with_reducible show Sn);go_must (refine j5 rfl 41 (.tmp 7) (.tmp 14) rfl g3 (ndC (x)) rfl rfl _ _ HK35.out jF rfl (jK _) ?_);intro w6 hk6 hg6 hs6
           have HK16:=kp (HK15.out.grown hg6 (fun e => by cases e;omega));have HK36:=kp hk6;have HW6:=kp (HW5.out.grown hg6 hs5 (fun k e => by cases e;omega));clear hg6
           rw [hEx.out] at hk6;have hx0:=hk6.cell 0;simp only [List.getElem?_cons_zero] at hx0;have HX6:=kp hk6;clear hk6))
      have hd1:=HK16.out.lt;have hd3:=HK36.out.lt
      apply lM (.is (pcA q) :: .is _ :: .is _ :: .is _ :: .is _ :: .is _ :: .is _ :: .is _ :: .is _ :: .is _ :: .is _ :: .is _ :: .is _ :: .is _ :: [])
        [[],[],[(1,31)],[],[],[(4,34)],[(2,32),(3,33)],[(6,36)],[(7,37),(5,35)],[(8,38)],[(9,39)],[(0,30),(10,40)],[(11,41)],[(12,42)]]
        [(0,30),(1,31),(2,32),(3,33),(4,34),(5,35),(6,36),(7,37),(8,38),(9,39),(10,40),(11,41),(12,42),(13,6)] (by kernel_rfl) (by kernel_rfl)
      case hob =>
        refine ⟨?o0,?o1,?o2,?o3,?o4,?o5,?o6,?o7,?o8,?o9,?o10,?o11,?o12,?o13,trivial⟩
        case o0 =>
          intro W hW;change wpList _ _ _ _ _ _
          have HKw:=kp (HK16.out.below hW hd1)
          go_wp2_with ((with_reducible show Sl 30);go_must (refine j6 rfl 47 (.tmp 3) rfl g1 rfl _ (pcC q) _ HKw.out Tryd.underlying47 rfl (by rw [HQ17.out];exact j9) ?_))
          exact j3 rfl rfl rfl
        case o1 => intro W hW;change wpList _ _ _ _ _ _;go_wp2;exact j3 rfl rfl rfl
        case o2 =>
          intro W hW;rintro _ rfl;change wpList _ _ _ _ _ _
          have hc:=(HK16.out.below hW hd1).cell 0
          rw [HE.out,List.getElem?_cons_zero] at hc
          go_wp2;exact j3 rfl rfl rfl
        case o3 => intro W hW;change wpList _ _ _ _ _ _;go_wp2;exact j3 rfl rfl rfl
        case o4 => intro W hW;change wpList _ _ _ _ _ _;go_wp2;exact j3 rfl rfl rfl
        case o5 =>
          intro W hW;rintro _ rfl;change wpList _ _ _ _ _ _
          have hc:=(HX6.out.below hW hd3).cell 1
          simp only [List.getElem?_cons_zero,List.getElem?_cons_succ] at hc
          go_wp2;exact j3 rfl rfl rfl
        case o6 => intro W hW;rintro _ rfl;rintro _ rfl;change wpList _ _ _ _ _ _;go_wp2;exact j3 rfl rfl rfl
        case o7 => intro W hW;rintro _ rfl;change wpList _ _ _ _ _ _;go_wp2;exact j3 rfl rfl rfl
        case o8 => intro W hW;rintro _ rfl;rintro _ rfl;change wpList _ _ _ _ _ _;go_wp2;exact j3 rfl rfl rfl
        case o9 =>
          intro W hW;rintro _ rfl;change wpList _ _ _ _ _ _
          have hc:=((HW6.out.trans (hW.mono HW6.out.size)).cell (p:=⟨(ad.add (k * 9)).block,(ad.add (k * 9)).off + 1 + a,none⟩) (by show (ad.add (k * 9)).block < _;rw [add_block];omega)).trans HOc.out
          go_wp2;exact j3 rfl rfl rfl
        case o10 =>
          intro W hW;rintro _ rfl;change wpList _ _ _ _ _ _
          go_wp2_with fail
          refine (LF o (by omega) W).mono ?_
          rintro e w2 ⟨rfl,rfl⟩
          go_wp2
          exact j3 rfl rfl rfl
        case o11 =>
          intro W hW;rintro _ rfl;rintro _ rfl;change wpList _ _ _ _ _ _
          go_wp2_with fail
          refine (zA B q W (HQ.out.below ((HW6.out.trans (hW.mono HW6.out.size)).mono hB)) (by have:=(HW6.out.trans (hW.mono HW6.out.size)).size;omega) (by omega) ((o : Int) - 1) HI1.out bl HBl.out).mono ?_
          rintro e w2 ⟨rfl,hb2⟩
          have HB2:=kp hb2;clear hb2
          go_wp2
          exact jE rfl rfl rfl HB2.out rfl
        case o12 => intro W hW;rintro _ rfl;change wpList _ _ _ _ _ _;go_wp2;exact j3 rfl rfl rfl
        case o13 => intro W hW;rintro _ rfl;change wpList _ _ _ _ _ _;go_wp2;exact j3 rfl rfl rfl
      case hend =>
        intro W hW;rintro _ rfl;rintro _ rfl;rintro _ rfl;rintro _ rfl;rintro _ rfl;rintro _ rfl;rintro _ rfl;rintro _ rfl;rintro _ rfl;rintro _ rfl;rintro _ rfl;rintro _ rfl;rintro _ rfl;rintro _ rfl
        simp only [given,jL,List.set]
        have HWw:=kp (HW6.out.trans (hW.mono HW6.out.size))
        clear hW
        go_wp2
        go_ret
        exact ⟨rfl,HWw.out⟩
    rw [if_neg k6] at hb
    have e6 : (x.kind == 6) = false:=by rw [beq_eq_false_iff_ne];exact k6
    by_cases k5 : x.kind = 5
    · rw [if_pos k5,hq.len] at hb
      have e5 : (x.kind == 5) = true:=by rw [beq_iff_eq];exact k5
      have HB : Kept (decide ((q.len : Int) < 8) = b):=kp (by rw [← hb,Bool.eq_iff_iff,decide_eq_true_eq,decide_eq_true_eq];omega)
      clear hp hq ht hg hf hq17 hlv hlv2 hb hx hfit hth hsok hthc hsl hc0 hcs ha hA hfn k3 k6 k5
      rw [qO,jN]
      go_enter Tryd.func19,Tryd.ntmps19
      go_wp2_with (first
        | ((with_reducible refine j4 rfl 47 (.tmp 0) rfl (pcC q) rfl ?_);intro g1 w1 hg1 hk1 hw1;have HK1:=kp hk1;have HW1:=kp hw1;have hs1:=hw1.size;have hl1:=hk1.lt;clear hk1 hw1)
        | ((with_reducible refine j4 rfl 24 (.tmp 1) rfl (pgC p) rfl ?_);intro g2 w2 hg2 hk2 hw2;have HK12:=kp (HK1.out.below hw2 hl1);have HK2:=kp hk2;have HW2:=kp (HW1.out.trans (hw2.mono hs1));have hs2:=HW2.out.size;have hl12:=HK12.out.lt;have hl2:=hk2.lt;clear hk2 hw2)
        | ((with_reducible show Sl 10);go_must (refine j6 rfl 47 (.tmp 3) rfl g1 rfl _ (pcC q) _ HK12.out Tryd.underlying47 rfl (by rw [HQ17.out];exact j9) ?_))
        | ((with_reducible show Sl 11);go_must (refine j6 rfl 24 (.tmp 4) rfl g2 rfl _ (pgC p) _ HK2.out Tryd.underlying24 rfl jH ?_))
        | (go_at_call 17;go_must (refine (qY B p HFine.out q w2 (HP.out.below (HW2.out.mono hB)) (HQ.out.below (HW2.out.mono hB)) HG.out (by omega) ((k : Int)) HT.out true HLv.out (x) HX.out).mono ?_);rintro e w4 ⟨rfl,hb4⟩
           have HW4:=kp (HW2.out.trans (hb4.mono hs2));have HK14:=kp (HK12.out.below hb4 hl12);have hl14:=HK14.out.lt;have hs4:=HW4.out.size;clear hb4)
        | ((with_reducible show Sl 7);go_must (refine j7 rfl 41 rfl (ndC ⟨0,0,0,0⟩) jI ?_);intro g3 w5 hg3 hk5 hw5
           have HK35:=kp hk5;have HK15:=kp (HK14.out.below hw5 hl14);have HW5:=kp (HW4.out.trans (hw5.mono hs4));have hs5:=HW5.out.size;have hl35:=hk5.lt;clear hk5 hw5)
        | ((with_reducible show Sn);go_must (refine j5 rfl 41 (.tmp 7) (.tmp 14) rfl g3 (ndC (x)) rfl rfl _ _ HK35.out jF rfl (jK _) ?_);intro w6 hk6 hg6 hs6
           have HK16:=kp (HK15.out.grown hg6 (fun e => by cases e;omega));have HK36:=kp hk6;have HW6:=kp (HW5.out.grown hg6 hs5 (fun k e => by cases e;omega));clear hg6
           rw [hEx.out] at hk6;have hx0:=hk6.cell 0;simp only [List.getElem?_cons_zero] at hx0;clear hk6
           have hc0:=HK16.out.cell 0;rw [HE.out,List.getElem?_cons_zero] at hc0))
      go_ret
      exact ⟨jS HB.out,HW6.out⟩
    rw [if_neg k5] at hb
    subst hb
    have e5 : (x.kind == 5) = false:=by rw [beq_eq_false_iff_ne];exact k5
    clear hp hq ht hg hf hq17 hlv hlv2 hx hfit hth hsok hthc hsl hc0 hcs ha hA hfn k3 k6 k5
    rw [qO,jN]
    go_enter Tryd.func19,Tryd.ntmps19
    go_wp2_with (first
      | ((with_reducible refine j4 rfl 47 (.tmp 0) rfl (pcC q) rfl ?_);intro g1 w1 hg1 hk1 hw1;have HK1:=kp hk1;have HW1:=kp hw1;have hs1:=hw1.size;have hl1:=hk1.lt;clear hk1 hw1)
      | ((with_reducible refine j4 rfl 24 (.tmp 1) rfl (pgC p) rfl ?_);intro g2 w2 hg2 hk2 hw2;have HK12:=kp (HK1.out.below hw2 hl1);have HK2:=kp hk2;have HW2:=kp (HW1.out.trans (hw2.mono hs1));have hs2:=HW2.out.size;have hl12:=HK12.out.lt;have hl2:=hk2.lt;clear hk2 hw2)
      | ((with_reducible show Sl 10);go_must (refine j6 rfl 47 (.tmp 3) rfl g1 rfl _ (pcC q) _ HK12.out Tryd.underlying47 rfl (by rw [HQ17.out];exact j9) ?_))
      | ((with_reducible show Sl 11);go_must (refine j6 rfl 24 (.tmp 4) rfl g2 rfl _ (pgC p) _ HK2.out Tryd.underlying24 rfl jH ?_))
      | (go_at_call 17;go_must (refine (qY B p HFine.out q w2 (HP.out.below (HW2.out.mono hB)) (HQ.out.below (HW2.out.mono hB)) HG.out (by omega) ((k : Int)) HT.out true HLv.out (x) HX.out).mono ?_);rintro e w4 ⟨rfl,hb4⟩
         have HW4:=kp (HW2.out.trans (hb4.mono hs2));have HK14:=kp (HK12.out.below hb4 hl12);have hl14:=HK14.out.lt;have hs4:=HW4.out.size;clear hb4)
      | ((with_reducible show Sl 7);go_must (refine j7 rfl 41 rfl (ndC ⟨0,0,0,0⟩) jI ?_);intro g3 w5 hg3 hk5 hw5
         have HK35:=kp hk5;have HK15:=kp (HK14.out.below hw5 hl14);have HW5:=kp (HW4.out.trans (hw5.mono hs4));have hs5:=HW5.out.size;have hl35:=hk5.lt;clear hk5 hw5)
      | ((with_reducible show Sn);go_must (refine j5 rfl 41 (.tmp 7) (.tmp 14) rfl g3 (ndC (x)) rfl rfl _ _ HK35.out jF rfl (jK _) ?_);intro w6 hk6 hg6 hs6
         have HK16:=kp (HK15.out.grown hg6 (fun e => by cases e;omega));have HK36:=kp hk6;have HW6:=kp (HW5.out.grown hg6 hs5 (fun k e => by cases e;omega));clear hg6
         rw [hEx.out] at hk6;have hx0:=hk6.cell 0;simp only [List.getElem?_cons_zero] at hx0;clear hk6))
    go_ret
    exact ⟨rfl,HW6.out⟩
theorem OwnR.empty {α : Type} (sz : Nat) (f : α → Nat → Value) (w : World) (B : Nat) (e : TypeId) (hB : B ≤ w.heap.size) : OwnR sz f (w.alloc (.cells #[] e)) B e (.slice (some ⟨w.heap.size,0,none⟩) 0 0) [] :=
  ⟨by simp [cellsR],.inr ⟨w.heap.size,0,#[],rfl,hB,heap_alloc_new w _,Nat.le_refl _,by simp [maxLen],by simp,by simp [cellsR]⟩⟩
theorem L8 {P : Program} (t ty : TypeId) (B : Nat) (e : TypeId) (sz : Nat) (z : Value) (bytes : Nat) (ht : P.underlying t = some (.slice e)) (hi : (P.info? e).map (fun i => (i.zero,i.size,i.bytes)) = some (some z,sz,bytes)) (hzs : z.cells.size = sz) (hsz : 0 < sz)
    {α : Type} (f : α → Nat → Value) (hone : ∀ x j,(f x j).oneCell' = true) (w : World) (v : Value) (l : List α) (hown : OwnR sz f w B e v l) (A : Option Addr) (m c C : Nat) (news : List α) (hr : Recs sz f w C A m news)
    (h63 : l.length + m ≤ maxLen) (hbytes : (l.length + m) * bytes ≤ 140737488355328) (hB : B ≤ w.heap.size) :
    ∃ v' w',(Builtin.append_ #[t,t] ty #[v,.slice A m c]).run P w = .ok v' w' ∧ OwnR sz f w' B e v' (l ++ news) ∧ Grew w w' v v':=by
  obtain ⟨i,hi0,hzz⟩:=Option.map_eq_some_iff.1 hi
  simp only [Prod.mk.injEq] at hzz
  obtain ⟨hz,hsize,hby⟩:=hzz
  rcases A with _ | ad
  · have h0 : m = 0:=by
      rcases Nat.eq_zero_or_pos m with h0 | h0
      · exact h0
      · obtain ⟨_,h,_⟩:=hr.cells h0;cases h
    subst h0
    have hn : news = []:=List.eq_nil_of_length_eq_zero hr.len
    subst hn
    rcases hown.2 with ⟨rfl,hl0⟩ | ⟨g,cap,cur,rfl,_,_,hnc,_⟩
    · exact ⟨_,w,by simp [Builtin.append_,run_underlying ht,sizeOf,typeInfo,hi0,Builtin.lenOf,Builtin.firstCells],by simpa using hown,Grew.refl _ _⟩
    · exact ⟨_,w,by simp [Builtin.append_,run_underlying ht,sizeOf,typeInfo,hi0,Builtin.lenOf,Builtin.firstCells,hnc,storeCells],by simpa using hown,Grew.refl _ _⟩
  · have hcl : (cellsR sz f news).length = m * sz:=by rw [lK,hr.len]
    have hcells : ∀ j u,(cellsR sz f news)[j]? = some u → w.cell? (ad.add j) = some u:=by
      intro j u hu
      have hj : j < m * sz:=by
        have:=(List.getElem?_eq_some_iff.1 hu).1
        rw [hcl] at this;exact this
      have h0 : 0 < m:=by
        rcases Nat.eq_zero_or_pos m with h0 | h0
        · rw [h0] at hj;omega
        · exact h0
      obtain ⟨ad',e1,_,hc⟩:=hr.cells h0
      cases e1
      have hd : j / sz < m:=by
        rcases Nat.lt_or_ge (j / sz) m with h | h
        · exact h
        · have h1:=Nat.mul_le_mul_right sz h
          have h2:=Nat.div_mul_le_self j sz
          omega
      have hr2 : j % sz < sz:=Nat.mod_lt _ hsz
      have hq : j = j / sz * sz + j % sz:=by have:=Nat.div_add_mod j sz;rw [Nat.mul_comm] at this;omega
      have hx : news[j / sz]? = some (news[j / sz]'(by rw [hr.len];exact hd)):=List.getElem?_eq_getElem _
      have h1:=hc _ _ hx _ hr2
      have h2:=lF sz f news _ _ _ hx hr2
      rw [← hq] at h1 h2
      rw [h2] at hu
      rw [h1,Option.some.inj hu]
    have hone' : ∀ u ∈ cellsR sz f news,u.oneCell' = true:=fun u hu => by
      unfold cellsR at hu
      obtain ⟨x,_,hu⟩:=List.mem_flatMap.1 hu
      obtain ⟨j,_,rfl⟩:=List.mem_map.1 hu
      exact hone x j
    obtain ⟨v',w',hrun,h2,h3,_,h5⟩:=run_append_own_at (P:=P) w B t ty e i z sz bytes ht hi0 hz hsize hby hzs hsz v l.length (cellsR sz f l) hown ad m c (cellsR sz f news) hcl hcells hone' h63 hbytes hB
    refine ⟨v',w',hrun,?_,h3,?_⟩
    · unfold OwnR;rw [List.length_append,hr.len,xI];exact h2
    · rcases h5 with h5 | h5
      · exact .inl h5
      · refine .inr fun g hg => ?_
        rw [h5] at hg;cases hg;exact Nat.le_refl _
theorem qC {P : Program} {ops : Array Oper} {rest : List Oper} {o : Oper} {a : Act} {Q : Exit → Act → World → Prop} (hgd : o.guard = none) (s x : Operand) (t : TypeId)
    (ho : o.op = .call { callee:=.builtin .append,args:=#[s,x],argTypes:=#[t,t] })
    (B : Nat) (e : TypeId) (sz : Nat) (z : Value) (bytes : Nat) (ht : P.underlying t = some (.slice e)) (hi : (P.info? e).map (fun i => (i.zero,i.size,i.bytes)) = some (some z,sz,bytes)) (hzs : z.cells.size = sz) (hsz : 0 < sz)
    {α : Type} (f : α → Nat → Value) (hone : ∀ x j,(f x j).oneCell' = true) (w : World) (v : Value) (l : List α) (hs : a.eval s = v) (hown : OwnR sz f w B e v l) (A : Option Addr) (m c C : Nat) (news : List α) (hx : a.eval x = .slice A m c) (hr : Recs sz f w C A m news)
    (h63 : l.length + m ≤ maxLen) (hbytes : (l.length + m) * bytes ≤ 140737488355328) (hB : B ≤ w.heap.size)
    (h : ∀ v' w',OwnR sz f w' B e v' (l ++ news) → Grew w w' v v' → wpList P ops Q rest (a.put o.dst v') w') : wpList P ops Q (o :: rest) a w:=by
  refine wpList_plain hgd fun K hK => ?_
  obtain ⟨v',w',hr,h2,h3⟩:=L8 (P:=P) t o.type B e sz z bytes ht hi hzs hsz f hone w v l hown A m c C news hr h63 hbytes hB
  unfold Oper.wp execOp
  simp only [ho,resolve,invoke,builtin,Sem.run_bind,Sem.run_pure,Result.andThen_ok,List.map_toArray,List.map_cons,List.map_nil,hs,hx,hr]
  exact hK _ _ (h v' w' h2 h3)
set_option maxRecDepth 100000 in
set_option maxHeartbeats 1600000 in
theorem LK (A : Option Addr) (n c : Nat) (l : List (Nat × Nat)) (w : World) (hr : Recs 2 frV w w.heap.size A n l) (hn : n ≤ 1000) :
    Calls Tryd.prog 51 #[.slice A n c] w fun e w' => ∃ v,e = .returned v ∧ OwnR 2 frV w' w.heap.size 77 v l ∧ Below w.heap.size w w':=by
  have HR:=kp hr
  have hlen:=hr.len
  have HLen:=kp hlen
  clear hr hlen
  cases A with
  | none =>
    have hl : l = []:=by
      have h0 : n = 0:=by
        rcases Nat.eq_zero_or_pos n with h0 | h0
        · exact h0
        · obtain ⟨_,h,_⟩:=HR.out.cells h0;cases h
      exact List.eq_nil_of_length_eq_zero (by rw [HLen.out];exact h0)
    subst hl
    have hnil : (binOp .eql 58 (.slice none n c) (.slice none 0 0)).run Tryd.prog w = .ok (.bool true) w:=Lib.run_eql_slice_nil w _ _ none n c 0 0 Tryd.underlying58
    go_enter Tryd.func51,Tryd.ntmps51
    go_wp2
    go_ret
    exact ⟨_,rfl,OwnR.nil _ _ _ _ _,Below.refl _ _⟩
  | some ad =>
    have hnil : (binOp .eql 58 (.slice (some ad) n c) (.slice none 0 0)).run Tryd.prog w = .ok (.bool false) w:=Lib.run_eql_slice_nil w _ _ (some ad) n c 0 0 Tryd.underlying58
    go_enter Tryd.func51,Tryd.ntmps51
    have HB : Kept (Below w.heap.size w (w.alloc (.cells #[] 77))):=kp ((Below.refl _ _).alloc (Nat.le_refl _) _)
    have HE : Kept (OwnR 2 frV (w.alloc (.cells #[] 77)) w.heap.size 77 (.slice (some ⟨w.heap.size,0,none⟩) 0 0) []):=kp (OwnR.empty _ _ _ _ _ (Nat.le_refl _))
    have HS : Kept (w.heap.size ≤ (w.alloc (.cells #[] 77)).heap.size):=kp HB.out.size
    go_wp2_with (at_builtin;go_must (refine qC rfl (.tmp 5) (.tmp 6) 58 rfl w.heap.size 77 2 _ 16 Tryd.underlying58 yI rfl (by omega) frV uS _ _ [] rfl HE.out (some ad) n c w.heap.size l rfl (HR.out.below HB.out) (by unfold maxLen;simp;omega) (by simp;omega) HS.out ?_);intro v' w' hown hgr;rw [List.nil_append] at hown;have HOw:=kp hown;have HBe:=kp (HB.out.grown hgr.1 HS.out (fun k e => by cases e;exact Nat.le_refl _));clear hown hgr)
    go_ret
    exact ⟨_,rfl,HOw.out,HBe.out⟩
set_option maxRecDepth 100000 in
set_option maxHeartbeats 1600000 in
theorem LJ (A : Option Addr) (n c : Nat) (l : List Tv) (w : World) (hr : Recs 9 tvV w w.heap.size A n l) (hn : n ≤ 1000) :
    Calls Tryd.prog 50 #[.slice A n c] w fun e w' => ∃ v,e = .returned v ∧ OwnR 9 tvV w' w.heap.size 61 v l ∧ Below w.heap.size w w':=by
  have HR:=kp hr
  have hlen:=hr.len
  have HLen:=kp hlen
  clear hr hlen
  cases A with
  | none =>
    have hl : l = []:=by
      have h0 : n = 0:=by
        rcases Nat.eq_zero_or_pos n with h0 | h0
        · exact h0
        · obtain ⟨_,h,_⟩:=HR.out.cells h0;cases h
      exact List.eq_nil_of_length_eq_zero (by rw [HLen.out];exact h0)
    subst hl
    have hnil : (binOp .eql 44 (.slice none n c) (.slice none 0 0)).run Tryd.prog w = .ok (.bool true) w:=Lib.run_eql_slice_nil w _ _ none n c 0 0 Tryd.underlying44
    go_enter Tryd.func50,Tryd.ntmps50
    go_wp2
    go_ret
    exact ⟨_,rfl,OwnR.nil _ _ _ _ _,Below.refl _ _⟩
  | some ad =>
    have hnil : (binOp .eql 44 (.slice (some ad) n c) (.slice none 0 0)).run Tryd.prog w = .ok (.bool false) w:=Lib.run_eql_slice_nil w _ _ (some ad) n c 0 0 Tryd.underlying44
    go_enter Tryd.func50,Tryd.ntmps50
    have HB : Kept (Below w.heap.size w (w.alloc (.cells #[] 61))):=kp ((Below.refl _ _).alloc (Nat.le_refl _) _)
    have HE : Kept (OwnR 9 tvV (w.alloc (.cells #[] 61)) w.heap.size 61 (.slice (some ⟨w.heap.size,0,none⟩) 0 0) []):=kp (OwnR.empty _ _ _ _ _ (Nat.le_refl _))
    have HS : Kept (w.heap.size ≤ (w.alloc (.cells #[] 61)).heap.size):=kp HB.out.size
    go_wp2_with (at_builtin;go_must (refine qC rfl (.tmp 5) (.tmp 6) 44 rfl w.heap.size 61 9 _ 88 Tryd.underlying44 xM rfl (by omega) tvV uI _ _ [] rfl HE.out (some ad) n c w.heap.size l rfl (HR.out.below HB.out) (by unfold maxLen;simp;omega) (by simp;omega) HS.out ?_);intro v' w' hown hgr;rw [List.nil_append] at hown;have HOw:=kp hown;have HBe:=kp (HB.out.grown hgr.1 HS.out (fun k e => by cases e;exact Nat.le_refl _));clear hown hgr)
    go_ret
    exact ⟨_,rfl,HOw.out,HBe.out⟩
theorem vZ : (Tryd.prog.info? 44).map (·.size) = some 1:=by kernel_rfl
def Fact.ownN {α : Type} (sz : Nat) (f : α → Nat → Value) (B : Nat) (e : TypeId) (K : Nat) (l : List α) : Fact :=
  ⟨fun v W => OwnR sz f W B e v l ∧ ∀ b,v.ownBlock = some b → K ≤ b,fun _ _ _ hb ⟨h1,h2⟩ => ⟨h1.below hb (Nat.le_refl _),h2⟩⟩
structure Mine (w : World) (B : Nat) (q : Pc) : Prop where
  row : OwnR 9 tvV w B 61 (.slice q.A q.len q.cap) q.tvs
  fam : Fam 77 w B (fun b => (Value.slice q.A q.len q.cap).ownBlock = some b) (q.tvs.map (·.sv))
theorem Mine.st {w1 w : World} {B gN gU : Nat} {q : Pc} (h : Mine w1 B q) (hw : Below w1.heap.size w1 w) (hc : Blk w gN 47 (pcC q)) (hN : w1.heap.size ≤ gN) (hU : w1.heap.size ≤ gU) (hl : gU < w.heap.size) (hB : B ≤ gN) : St w B gN gU q :=
  ⟨hc,h.row.below hw (Nat.le_refl _),(h.fam.less fun b hb => by
    rcases hb with rfl | rfl | hb
    · exact .inr hN
    · exact .inr hU
    · exact .inl hb).below hw (Nat.le_refl _),fun b hb => by
    have:=(h.row.block b hb).2
    constructor <;> omega,hB,hl⟩
theorem Mine.far {w w' : World} {B g : Nat} {q : Pc} (h : Mine w B q) (hg : w.grownBy w' (some g)) (hr : ∀ b,(Value.slice q.A q.len q.cap).ownBlock = some b → b ≠ g) (hf : ∀ (k : Nat) (y : Sv) (b : Nat),(q.tvs.map (·.sv))[k]? = some y → (svV y).ownBlock = some b → b ≠ g) : Mine w' B q :=
  ⟨h.row.far hg (by
    cases hv : (Value.slice q.A q.len q.cap).ownBlock with
    | none => exact .inl rfl
    | some b => exact .inr fun e => hr b hv (by cases e;rfl)),⟨fun k x hx => (h.fam.own k x hx).far hg (by
    cases hv : (svV x).ownBlock with
    | none => exact .inl rfl
    | some b => exact .inr fun e => hf k x b hx hv (by cases e;rfl)),h.fam.out,h.fam.apart⟩⟩
theorem cp_row {W w7 : World} {B0 gT n cap i : Nat} {tvs tvs1 : List Tv} {x : Tv} {A5 : Option Addr} {c5 : Nat} {cur : List Value} (hr : OwnR 9 tvV W B0 61 (.slice (some ⟨gT,0,none⟩) n cap) (tvs1 ++ tvs.drop i)) (hx : tvs[i]? = some x) (hl : tvs1.length = i) (_h9 : True)
    (hb : Blk W gT 61 cur) (hb7 : Blk w7 gT 61 (cur.set (i * 9) (.slice A5 x.sv.len c5))) : OwnR 9 tvV w7 B0 61 (.slice (some ⟨gT,0,none⟩) n cap) ((tvs1 ++ [⟨⟨A5,x.sv.len,c5,x.sv.stack⟩,x.slots⟩]) ++ tvs.drop (i + 1)):=by
  have hi : i < tvs.length:=(List.getElem?_eq_some_iff.1 hx).1
  have hd : tvs.drop i = x :: tvs.drop (i + 1):=by
    rw [List.drop_eq_getElem_cons hi]
    have : tvs[i] = x:=by rw [List.getElem?_eq_getElem hi] at hx;exact Option.some.inj hx
    rw [this]
  have hk : (tvs1 ++ tvs.drop i)[i]? = some x:=by
    rw [List.getElem?_append_right (by omega),hl,Nat.sub_self,hd];rfl
  have h:=hr.set (k:=i) (j:=0) (x':=⟨⟨A5,x.sv.len,c5,x.sv.stack⟩,x.slots⟩) (v:=.slice A5 x.sv.len c5) hk (by omega) (fun j hj => by
    match j,hj with
    | 0,_ => rfl
    | j + 1,_ => rfl) hb rfl hb7
  have e : (tvs1 ++ tvs.drop i).set i ⟨⟨A5,x.sv.len,c5,x.sv.stack⟩,x.slots⟩ = (tvs1 ++ [⟨⟨A5,x.sv.len,c5,x.sv.stack⟩,x.slots⟩]) ++ tvs.drop (i + 1):=by
    rw [hd,List.set_append_right _ _ (by omega),hl,Nat.sub_self,List.set_cons_zero,List.append_assoc];rfl
  rw [e] at h
  exact h
theorem cp_fam {W w7 : World} {B0 gN g2 gT K n5 c5 : Nat} {tvs1 : List Tv} {A5 : Option Addr} {l : List (Nat × Nat)} {sl : List Nat} (hf : Fam 77 W B0 (fun b => b = gN ∨ b = g2 ∨ b = gT) (tvs1.map (·.sv))) (ho : OwnR 2 frV W B0 77 (.slice A5 n5 c5) l) (hk : ∀ b,(Value.slice A5 n5 c5).ownBlock = some b → K ≤ b)
    (hS : ∀ b,(b = gN ∨ b = g2 ∨ b = gT) → b < K) (hb : ∀ (k : Nat) (y : Sv) (b : Nat),(tvs1.map (·.sv))[k]? = some y → (svV y).ownBlock = some b → B0 ≤ b ∧ b < K) (hg : W.grownBy w7 (some gT)) :
    Fam 77 w7 B0 (fun b => b = gN ∨ b = g2 ∨ b = gT) ((tvs1 ++ [(⟨⟨A5,n5,c5,l⟩,sl⟩ : Tv)]).map (·.sv)):=by
  rw [List.map_append]
  refine (hf.add (x:=⟨A5,n5,c5,l⟩) ho (fun b h1 h2 => ?_) fun k y b hy h1 h2 => ?_).turn hg fun b e => by cases e;exact .inr (.inr rfl)
  · have:=hk b h1;have:=hS b h2;omega
  · have:=hk b h1;have:=(hb k y b hy h2).2;omega
set_option maxRecDepth 100000 in
set_option maxHeartbeats 1600000 in
theorem vF (q : Pc) (w : World) (hq : q.Ok w w.heap.size) (h8 : q.len ≤ 8) (h0 : 0 < q.len) (h16 : q.ow.length = 16) (hst : ∀ x ∈ q.tvs,x.sv.len ≤ 1000) :
    Calls Tryd.prog 34 #[pcA q] w fun e w' => ∃ q',e = .returned (pcA q') ∧ Mine w' w.heap.size q' ∧ q'.cf = q.cf ∧ q'.len = q.len ∧ q'.ow = q.ow ∧ Below w.heap.size w w':=by
  have HQ:=kp hq
  have hlen:=hq.row.len
  have HQl:=kp hlen
  have HQ17:=kp (lE h16)
  have HSt:=kp hst
  obtain ⟨tvs,htv⟩ : ∃ tvs,q.tvs = tvs:=⟨_,rfl⟩
  obtain ⟨n,hn⟩ : ∃ n,q.len = n:=⟨_,rfl⟩
  have HTv0:=kp htv;have HN:=kp hn
  rw [htv,hn] at HQl;rw [htv] at HSt
  rw [hn] at h8 h0
  have HE0 : Kept (pcC q = .slice q.A n q.cap :: q.ow.map natV):=kp (by unfold pcC;rw [hn])
  have HRec : Kept (Recs 9 tvV w w.heap.size q.A n tvs):=kp (by rw [← htv,← hn];exact hq.row)
  have HSv : Kept (∀ x ∈ tvs,x.sv.Ok w w.heap.size):=kp (by rw [← htv];exact hq.svs)
  clear hq hlen hst htv hn
  rw [qO]
  go_enter Tryd.func34,Tryd.ntmps34
  go_wp2_with (first
    | ((with_reducible refine j4 rfl 47 (.tmp 0) rfl (pcC q) rfl ?_);intro gN w1 hgN0 hk1 hw1;have HK1:=kp hk1;have HW1:=kp hw1;have hs1:=hw1.size;have hl1:=hk1.lt;clear hk1 hw1)
    | ((with_reducible show Sl 2);go_must (refine j7 rfl 47 rfl _ jX ?_);intro g2 w2 hg20 hk2 hw2
       have HK22:=kp hk2;have HK12:=kp (HK1.out.below hw2 hl1);have HW2:=kp (HW1.out.trans (hw2.mono hs1));have hs2:=HW2.out.size;have hl12:=HK12.out.lt;have hl2:=hk2.lt
       have hc0:=HK12.out.cell 0
       rw [HE0.out,List.getElem?_cons_zero] at hc0
       have HRec2:=kp ((HRec.out.below HW2.out).more hs2)
       clear hk2 hw2)
    | (go_at_call 50;go_must (refine (LJ q.A n q.cap tvs w2 HRec2.out (by omega)).mono ?_);rintro e w3 ⟨v3,rfl,hown3,hb3⟩
       obtain ⟨A3,c3,rfl,hl3,hm3,_⟩:=hown3.form
       rw [HQl.out] at hown3 hl3 ⊢
       obtain ⟨gT,curT0,hA3,hbT3,hcT3,_,hgT3,_,_,_⟩:=hown3.blk h0
       subst hA3
       have HOw3:=kp (hown3.less (show w.heap.size ≤ w2.heap.size by omega));have HbT3:=kp hbT3;have hTl3:=hbT3.lt
       unfold maxLen at hm3
       have HNe : Kept (gT ≠ gN ∧ g2 ≠ gN ∧ gT ≠ g2 ∧ w.heap.size ≤ gN ∧ w.heap.size ≤ g2 ∧ w.heap.size ≤ gT):=kp (by omega)
       have HK13:=kp (HK12.out.below hb3 hl12);have HK23:=kp (HK22.out.below hb3 hl2);have HW3:=kp (HW2.out.trans (hb3.mono hs2));have hs3:=HW3.out.size;have hs23:=hb3.size;clear hown3 hb3 hc0 hbT3)
    | ((with_reducible show Sn);go_must (refine jD rfl 44 (.tmp 7) (.tmp 6) rfl gN 0 (.slice (some ⟨gT,0,none⟩) n c3) rfl rfl rfl rfl _ _ HK13.out (by rw [HQ17.out];omega) vZ ?_);intro w4 hk4 hg4 hs4
       have HK4 : Kept (Blk w4 gN 47 (.slice (some ⟨gT,0,none⟩) n c3 :: q.ow.map natV)):=kp (by rw [HE0.out] at hk4;exact hk4)
       have HRow4:=kp (HOw3.out.far hg4 (.inr (fun e => by cases e;exact HNe.out.1 rfl)))
       have HK24:=kp (HK23.out.grown hg4 (fun e => by cases e;exact HNe.out.2.1 rfl))
       have HW4:=kp (HW3.out.grown hg4 HW3.out.size (fun k e => by cases e;exact HNe.out.2.2.2.1));have hs4':=HW4.out.size
       have hc0:=HK4.out.cell 0
       rw [List.getElem?_cons_zero] at hc0
       clear hk4 hg4 hs4))
  go_loopw [11] (fun v11 wr => ∃ (i : Nat) (tvs1 : List Tv),i ≤ n ∧ v11 = .int .i64 i ∧ tvs1.length = i ∧ tvs1.map tvT = (tvs.take i).map tvT ∧ OwnR 9 tvV wr w.heap.size 61 (.slice (some ⟨gT,0,none⟩) n c3) (tvs1 ++ tvs.drop i) ∧
      Fam 77 wr w.heap.size (fun b => b = gN ∨ b = g2 ∨ b = gT) (tvs1.map (·.sv)) ∧ Blk wr gN 47 (.slice (some ⟨gT,0,none⟩) n c3 :: q.ow.map natV) ∧ Blk wr g2 47 (Value.slice none 0 0 :: zeros 16) ∧ Below w.heap.size w wr) (fun v11 _ => n - (intOf v11).toNat)
  case atStart => exact ⟨0,[],by omega,rfl,rfl,rfl,by simpa using HRow4.out,Fam.nil _ _ _ _,HK4.out,HK24.out,HW4.out⟩
  case round =>
    obtain ⟨i,tvs1,hi,rfl,htl,htt,hrow,hfam,hkN,hk2,hbl⟩:=hrel
    have HTl:=kp htl;have HTt:=kp htt;have HRow:=kp hrow;have HFam:=kp hfam;have HK:=kp hkN;have HK2:=kp hk2;have HB:=kp hbl
    have hBs:=hbl.size
    have hgN:=hkN.lt;have hg2:=hk2.lt
    have hcN:=hkN.cell 0
    rw [List.getElem?_cons_zero] at hcN
    clear htl htt hrow hfam hkN hk2 hbl
    by_cases hlt : i < n
    · have hxi : tvs[i]? = some (tvs[i]'(by rw [HQl.out];exact hlt)):=List.getElem?_eq_getElem _
      obtain ⟨x,hx⟩ : ∃ x,tvs[i]'(by rw [HQl.out];exact hlt) = x:=⟨_,rfl⟩
      rw [hx] at hxi
      have hxm:=List.mem_of_getElem? hxi
      have HX:=kp (HSv.out x hxm)
      have hx1000:=HSt.out x hxm
      have HTv:=kp hxi
      obtain ⟨gT2,curT,hAT,hbT,hcTl,hcTt,hBT,hnc,hcm,_⟩:=HRow.out.blk h0
      have eT : gT = gT2:=by injection hAT with e;injection e
      subst eT
      have hk : (tvs1 ++ tvs.drop i)[i]? = some x:=by
        rw [List.getElem?_append_right (by rw [HTl.out];exact Nat.le_refl _),HTl.out,Nat.sub_self,List.getElem?_drop];exact hxi
      have hcx : curT[i * 9]? = some (.slice x.sv.A x.sv.len x.sv.cap):=by
        have h1:=lF 9 tvV (tvs1 ++ tvs.drop i) i 0 _ hk (by omega)
        rw [← hcTt,List.getElem?_take] at h1
        split at h1
        · exact h1
        · cases h1
      have HC0:=kp hcx;have HT:=kp hbT
      have hgT:=hbT.lt
      have hTlen : i * 9 < curT.length:=by rw [hcTl];omega
      have hTN : gT ≠ gN:=HNe.out.1
      have hT2 : gT ≠ g2:=HNe.out.2.2.1
      have HX9 : Kept True:=kp trivial
      have HTw : Kept (∀ (A5 : Option Addr) (c5 : Nat),(tvs1 ++ [(⟨⟨A5,x.sv.len,c5,x.sv.stack⟩,x.slots⟩ : Tv)]).map tvT = (tvs.take (i + 1)).map tvT):=kp (fun A5 c5 => by
        rw [List.map_append,HTt.out,List.take_add_one,hxi,List.map_append];rfl)
      have hxlc:=HX.out.lc;have hxcm:=HX.out.cm
      unfold maxLen at hxcm hcm
      clear hxi hx hxm hk hcx hbT hcTt hAT hcTl
      go_wp2
      apply jG 12 (.is _ :: .is _ :: .is _ :: .is _ :: .is _ :: .is _ :: .is _ :: .is _ :: .is _ :: Fact.ownN 2 frV w.heap.size 77 wr.heap.size x.sv.stack :: .is _ :: .is _ :: [])
        [[],[(0,14)],[],[],[(3,17)],[],[(4,18),(5,19)],[(6,20)],[(7,21)],[(8,22)],[(1,15),(2,16)],[(10,24)],[(11,25),(9,23)]]
        [(0,14),(1,15),(2,16),(3,17),(4,18),(5,19),(6,20),(7,21),(8,22),(9,23),(10,24),(11,25)] (by kernel_rfl) (by kernel_rfl) (by kernel_rfl) (by kernel_rfl) (by kernel_rfl)
      case hob =>
        refine ⟨?o0,?o1,?o2,?o3,?o4,?o5,?o6,?o7,?o8,?o9,?o10,?o11,trivial⟩
        case o0 => intro W hW;change wpList _ _ _ _ _ _;go_wp2;exact j3 rfl rfl rfl
        case o1 =>
          intro W hW;rintro _ rfl;change wpList _ _ _ _ _ _
          have hc:=((HK.out.below hW hgN).cell 0)
          rw [List.getElem?_cons_zero] at hc
          go_wp2;exact j3 rfl rfl rfl
        case o2 => intro W hW;change wpList _ _ _ _ _ _;go_wp2;exact j3 rfl rfl rfl
        case o3 => intro W hW;change wpList _ _ _ _ _ _;go_wp2;exact j3 rfl rfl rfl
        case o4 =>
          intro W hW;rintro _ rfl;change wpList _ _ _ _ _ _
          have hc:=((HK.out.below hW hgN).cell 0)
          rw [List.getElem?_cons_zero] at hc
          go_wp2;exact j3 rfl rfl rfl
        case o5 => intro W hW;change wpList _ _ _ _ _ _;go_wp2;exact j3 rfl rfl rfl
        case o6 => intro W hW;rintro _ rfl;rintro _ rfl;change wpList _ _ _ _ _ _;go_wp2;exact j3 rfl rfl rfl
        case o7 => intro W hW;rintro _ rfl;change wpList _ _ _ _ _ _;go_wp2;exact j3 rfl rfl rfl
        case o8 =>
          intro W hW;rintro _ rfl;change wpList _ _ _ _ _ _
          have hc:=(HT.out.below hW hgT).cell (i * 9)
          rw [HC0.out] at hc
          go_wp2;exact j3 rfl rfl rfl
        case o9 =>
          intro W hW;rintro _ rfl;change wpList _ _ _ _ _ _
          have HRw:=kp ((HX.out.row.below (HB.out.trans (hW.mono hBs))).more (show w.heap.size ≤ W.heap.size by have:=hW.size;omega))
          have hWs:=hW.size
          clear hW
          go_wp2_with fail
          refine (LK x.sv.A x.sv.len x.sv.cap x.sv.stack W HRw.out hx1000).mono ?_
          rintro e w2 ⟨v5,rfl,hown5,hb5⟩
          have HOw5:=kp (hown5.less (show w.heap.size ≤ W.heap.size by omega));have HB5:=kp hb5;have HBk:=kp hown5.block
          clear hown5 hb5
          go_wp2
          exact jE rfl rfl rfl HB5.out ⟨HOw5.out,fun b hb => Nat.le_trans hWs (HBk.out b hb).1⟩
        case o10 => intro W hW;rintro _ rfl;rintro _ rfl;change wpList _ _ _ _ _ _;go_wp2;exact j3 rfl rfl rfl
        case o11 => intro W hW;rintro _ rfl;change wpList _ _ _ _ _ _;go_wp2;exact j3 rfl rfl rfl
      case hend =>
        intro W hW;rintro _ rfl;rintro _ rfl;rintro _ rfl;rintro _ rfl;rintro _ rfl;rintro _ rfl;rintro _ rfl;rintro _ rfl;rintro _ rfl;rintro v5 ⟨hown5,hk5⟩;rintro _ rfl;rintro _ rfl
        simp only [given,jL,List.set,List.drop]
        obtain ⟨A5,c5,rfl,hl5,hm5,_⟩:=hown5.form
        rw [HX.out.row.len] at hown5 hk5 hl5
        have HOw5:=kp hown5;have HK5:=kp hk5
        have HKw:=kp (HT.out.below hW hgT)
        have HNw:=kp (HK.out.below hW hgN)
        have HRw:=kp (HRow.out.below hW (Nat.le_refl _))
        have HFw:=kp (HFam.out.below hW (Nat.le_refl _))
        have HK2w:=kp (HK2.out.below hW hg2)
        have HBw:=kp (HB.out.trans (hW.mono hBs))
        have hWs:=hW.size
        have HFb:=kp (fun (k : Nat) (y : Sv) (b : Nat) (hy : (tvs1.map (·.sv))[k]? = some y) (hb : (svV y).ownBlock = some b) => HFam.out.block hy hb)
        clear hW hown5 hk5 hl5
        rw [HX.out.row.len]
        go_wp2_with (first
          | ((with_reducible show Sn);go_must (refine jD rfl 58 (.tmp 25) (.tmp 23) rfl gT (i * 9) (.slice A5 x.sv.len c5) rfl rfl rfl rfl _ _ HKw.out hTlen xF ?_);intro w7 hk7 hg7 hs7
             have HRow7:=kp (cp_row HRw.out HTv.out HTl.out HX9.out HKw.out hk7 (A5:=A5) (c5:=c5))
             have HFam7:=kp (cp_fam (sl:=x.slots) HFw.out HOw5.out HK5.out (fun b hb => by rcases hb with rfl | rfl | rfl <;> omega) HFb.out hg7)
             have HK7:=kp (HNw.out.grown hg7 (fun e => hTN (by cases e;rfl)))
             have HK27:=kp (HK2w.out.grown hg7 (fun e => hT2 (by cases e;rfl)))
             have HB7:=kp (HBw.out.grown hg7 (by omega) (fun k e => by cases e;exact hBT))
             have hbt7:=hk7
             clear hk7 hg7 hs7))
        go_roundw
        case rel => exact ⟨i + 1,tvs1 ++ [⟨⟨A5,x.sv.len,c5,x.sv.stack⟩,x.slots⟩],by omega,by go_num,by rw [List.length_append,HTl.out];rfl,HTw.out _ _,HRow7.out,HFam7.out,HK7.out,HK27.out,HB7.out⟩
        case measure => simp [intOf];omega
    · have hie : i = n:=by omega
      have hkN:=HK.out
      have HM : Kept (Mine wr w.heap.size ⟨some ⟨gT,0,none⟩,n,c3,tvs1,q.ow⟩ ∧ (⟨some ⟨gT,0,none⟩,n,c3,tvs1,q.ow⟩ : Pc).cf = q.cf):=kp (by
        have hd : tvs.drop i = []:=List.drop_of_length_le (by rw [HQl.out,hie];exact Nat.le_refl _)
        have h1:=HRow.out
        rw [hd,List.append_nil] at h1
        refine ⟨⟨h1,HFam.out.less fun b hb => ?_⟩,?_⟩
        · cases hb;exact .inl (.inr (.inr rfl))
        · have h2:=HTt.out
          rw [List.take_of_length_le (by rw [HQl.out,hie];exact Nat.le_refl _)] at h2
          show (⟨tvs1.map tvT,q.ow⟩ : M.Cf) = ⟨q.tvs.map tvT,q.ow⟩
          rw [h2,HTv0.out])
      have HC17 : Kept ((.slice (some ⟨gT,0,none⟩) n c3 :: q.ow.map natV : List Value).length = 17):=kp (by simp [h16])
      have hge : n ≤ i:=by omega
      clear hlt hie hkN
      go_wp2_with (first
        | ((with_reducible show Sl 27);go_must (refine j6 rfl 47 (.tmp 1) rfl gN rfl _ (.slice (some ⟨gT,0,none⟩) n c3 :: q.ow.map natV) _ HK.out Tryd.underlying47 rfl (by rw [HC17.out];exact j9) ?_))
        | ((with_reducible show Sn);go_must (refine j5 rfl 47 (.tmp 2) (.tmp 27) rfl g2 (.slice (some ⟨gT,0,none⟩) n c3 :: q.ow.map natV) rfl rfl _ _ HK2.out (by rw [HC17.out];exact j9) (by rw [HC17.out];rfl) (jM ⟨some ⟨gT,0,none⟩,n,c3,[],q.ow⟩) ?_);intro w8 hk8 hg8 hs8
           have HK8:=kp hk8
           have HM8 : Kept (Mine w8 w.heap.size ⟨some ⟨gT,0,none⟩,n,c3,tvs1,q.ow⟩):=kp (HM.out.1.far hg8 (fun b e => by cases e;exact HNe.out.2.2.1) (fun k y b hy hb => by have:=HFam.out.out k y b hy hb;intro e;exact this (.inr (.inl e))))
           have HB8:=kp (HB.out.grown hg8 HB.out.size (fun k e => by cases e;exact HNe.out.2.2.2.2.1))
           clear hk8 hg8 hs8)
        | ((with_reducible show bodyPost _ _ _ _ _ _);exact bodyPost_ret (lL (P:=Tryd.prog) (fn:=Tryd.f34) rfl _ _ g2 47 _ _ rfl HK8.out Tryd.underlying47 rfl (by rw [HC17.out];exact j9)) rfl ⟨⟨some ⟨gT,0,none⟩,n,c3,tvs1,q.ow⟩,rfl,HM8.out,HM.out.2,HN.out.symm,rfl,HB8.out⟩))
end Go.Proofs.YtfiafbflhglpeaaDoor
