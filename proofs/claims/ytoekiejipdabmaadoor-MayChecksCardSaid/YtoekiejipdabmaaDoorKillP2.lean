/- What functions may do, gathered, walked: gather, over whichever told. -/
import Derived.Test.YtoekiejipdabmaaDoorPk5
import Derived.Test.YtoekiejipdabmaaDoorGraphP3
import Derived.Test.YtoekiejipdabmaaDoorPk6
import Derived.Test.YtoekiejipdabmaaDoorPk3
import Derived.Laws.BitsAllLaws
namespace Go.Proofs.YtoekiejipdabmaaDoor
open Go.RowKit
theorem QB {l : List Nat} {f x : Nat} (h : l[f]? = some x) : l.set f x = l:=by
  refine List.ext_getElem? fun j => ?_
  by_cases e : f = j
  · subst e
    rw [List.getElem?_set_self (List.getElem?_eq_some_iff.1 h).1,h]
  · rw [List.getElem?_set_ne e]
theorem uD (a : Act) (v : Value) : a.put none v = a:=rfl
set_option maxRecDepth 1000000 in
set_option maxHeartbeats 8000000 in
theorem LK (B : Nat) (p : Pg) (w : World) (hp : p.Ok w B) (hB : B ≤ w.heap.size) (hs : Q.small p = true) (ht : Tab w) (c0 c1 : Int) (c : Nat) (hc : Q.check p = (c0,c1,c)) (F : Nat) (a b : Int) (hF : Teller F a b) (ms9 : List Nat) (hms9 : killA p a b c = ms9) :
    Calls Tryd.prog 36 #[pgA p,.func (.func F) #[] #[]] w fun e w' => ∃ v,e = .returned (.tuple #[v,.int .i64 (c : Int)]) ∧ Own w' w.heap.size 53 v (ms9.map wordV) ∧ Below w.heap.size w w':=by
  have HP:=kp hp;have HS:=kp hs;have HT0:=kp ht;have HC:=kp hc;have HT:=kp hF;have HMs9:=kp hms9
  have hw1:=ht.size
  have HLen:=kp hp.row.len
  have hlc:=hp.lc;have hcm:=hp.cm
  unfold maxLen at hcm
  have hcm9 : p.cap ≤ 9223372036854775807:=by omega
  clear hp hcm hs ht hc hF hms9
  rw [jM]
  by_cases hz : c = 0
  · subst hz
    have HF:=kp (qZ HC.out)
    have hl16 : p.len ≤ 16:=by have h1:=HF.out.counts.f;have h2:=HLen.out;omega
    have hl0 : 0 < p.len:=by have h1:=HF.out.counts.f;have h2:=HLen.out;omega
    go_enter Tryd.func36,Tryd.ntmps36
    go_wp2_with (first
      | ((with_reducible refine j4 rfl 24 (.tmp 0) rfl (pgC p) rfl ?_);intro g1 w1 hg1 hk1 hw1;have HK1:=kp hk1;have HW1:=kp hw1;have hs1:=hw1.size;have HP1:=kp (HP.out.below (hw1.mono hB));obtain ⟨hc0,hc1,hc2,hc3⟩:=j8 hk1;clear hg1 hk1 hw1)
      | (go_at_call 60;go_must (refine (vO B p w1 HP1.out (Nat.le_trans hB hs1) HS.out c0 c1 0 HC.out).mono ?_);rintro e w2 ⟨v2,l,rfl,_,hord,hown2,hb2⟩
         obtain ⟨hord,hll⟩:=hord rfl
         obtain ⟨A2,k2,rfl,hk2,hm2,hr2⟩:=Own.readsN hown2 hll
         have HOrd:=kp hord;have HLL:=kp hll;have HR2:=kp hr2
         have HK2:=kp (HK1.out.below hb2 HK1.out.lt);have HP2:=kp (HP1.out.below (hb2.mono (Nat.le_trans hB hs1)));have HW2:=kp (HW1.out.trans (hb2.mono hs1));have hs2:=HW2.out.size
         clear hord hll hown2 hr2 hb2 hc0 hc1 hc2 hc3
         obtain ⟨hc0,hc1,hc2,hc3⟩:=j8 HK2.out
         unfold maxLen at hm2)
      | (go_at_call 61;go_must (refine (yO B p w2 HP2.out (Nat.le_trans hB hs2) HS.out (by omega)).mono ?_);rintro e w3 ⟨v3,cms,rfl,hml,hms,hown3,hb3⟩
         obtain ⟨A3,k3,rfl,hk3,hm3,hr3⟩:=Own.readsN hown3 hml
         have HMl:=kp hml;have HMs:=kp hms;have HR3:=kp hr3
         have hs23:=hb3.size
         have HR23:=kp ((HR2.out.below hb3).more hs23)
         have HK3:=kp (HK2.out.below hb3 HK2.out.lt);have HP3:=kp (HP2.out.below (hb3.mono (Nat.le_trans hB hs2)));have HW3:=kp (HW2.out.trans (hb3.mono hs2));have hs3:=HW3.out.size
         clear hml hms hown3 hr3 hb3 hc0 hc1 hc2 hc3
         obtain ⟨hc0,hc1,hc2,hc3⟩:=j8 HK3.out
         unfold maxLen at hm3)
      | ((with_reducible show Sl 29);go_must (refine l9 rfl 54 (.tmp 28) (.tmp 28) rfl 53 (.int .u32 0) 4 Tryd.underlying54 lV rfl .i64 .i64 p.len p.len rfl rfl (Nat.le_refl _) (by omega) (by omega) ?_);intro r w4 hr4 hk4 hb4;have HR4:=kp hr4;have HK4:=kp hk4;have hlr4:=hk4.lt
         have HM4:=kp hb4
         have HW4:=kp (HW3.out.trans (hb4.mono hs3));have hs4:=HW4.out.size;have hs34:=hb4.size
         have HKp:=kp (HK3.out.below hb4 HK3.out.lt)
         have hlp:=HK3.out.lt
         clear hr4 hk4 hb4 hc0 hc1 hc2 hc3))
    have hnl : (p.len : Int) ≤ 16:=by omega
    go_loopw [32] (fun v32 wr => ∃ (k : Nat) (ms : List Nat),k ≤ p.len ∧ v32 = .int .i64 k ∧ GaInv p a b l ms k ∧ Blk wr r 53 (ms.map wordV) ∧ Below w3.heap.size w3 wr) (fun v32 _ => p.len - (intOf v32).toNat)
    case atStart => exact ⟨0,List.replicate p.len 0,by omega,rfl,GaInv.start p a b l,by rw [List.map_replicate];exact HK4.out,HM4.out⟩
    case round =>
      clear HK1 HK2 HP1 HP2 HW1 HW2 HM4 HW4 HKp
      obtain ⟨k,ms,hk,rfl,hgi,hkr,hbr⟩:=hrel
      have HG:=kp hgi;have HKr0:=kp hkr;have HBr:=kp hbr
      have hsr:=hbr.size
      by_cases hlt : k < p.len
      · obtain ⟨ad2,f,rfl,hab2,hxf,hcf2⟩:=(HR23.out.below hbr).get hlt
        rw [lG] at hcf2
        have hfl : f < p.len:=by rw [← HLen.out];exact (HOrd.out k f hxf).1
        have HFl:=kp hfl
        obtain ⟨ad,fn,e0,_,hfn,hfok,hcf⟩:=(HP3.out.below (hbr.mono (Nat.le_trans hB hs3))).fn hfl
        obtain ⟨ad3,cm,rfl,hab3,hxc,hcf3⟩:=(HR3.out.below hbr).get hfl
        rw [lW] at hcf3
        have HCm:=kp (HMs.out f fn cm hfn hxc)
        have hcm32:=HCm.out.1
        have HXf:=kp hxf;have HXc:=kp hxc;have HFn:=kp hfn;have HE0:=kp e0;have hflc:=hfok.lc
        have hfcm:=hfok.cm
        have hfl64 : fn.len ≤ 64:=by have h1:=(Q.fine_fn hfn (HF.out.nodes f (by rw [HLen.out];exact hfl))).2.1;have h2:=hfok.nodes.1.len;omega
        obtain ⟨m0,hm0⟩ : ∃ m0,ms[f]? = some m0:=⟨_,List.getElem?_eq_getElem (by rw [hgi.len];exact hfl)⟩
        have hm00 : m0 = 0:=by
          refine hgi.todo f m0 hm0 fun hin => ?_
          have h3:=(HOrd.out k f hxf).2.1.1
          exact h3 hin
        subst hm00
        have HM0:=kp hm0
        have HKp:=kp (HK3.out.below hbr hlp)
        obtain ⟨hc0,hc1,hc2,hc3⟩:=j8 HKp.out
        rw [e0] at hc3
        have hri : (f : Int) < (p.len : Int):=by omega
        have hcr3:=hcf3
        clear hgi hkr hbr hxf hfn hxc hm0 hfok e0
        rw [HE0.out]
        have HNd : Kept (∀ W,Below w3.heap.size w3 W → Nodes W B fn.A fn.len fn.nodes):=kp fun W hW => by
          obtain ⟨_,fn',_,_,hx',hok',_⟩:=(HP3.out.below (hW.mono (Nat.le_trans hB hs3))).fn hfl
          rw [HFn.out] at hx';cases hx';exact hok'.nodes
        have HTw : Kept (∀ W,Below w3.heap.size w3 W → Tab W):=kp fun W hW => HT0.out.below (HW3.out.trans (hW.mono hs3)) hw1
        have hnl64 : (fn.len : Int) ≤ 64:=by omega
        go_wp2
        go_loopw [42] (fun v42 wi => ∃ (i m : Nat),i ≤ fn.len ∧ v42 = .int .i64 i ∧ NoInv a b fn.nodes m i ∧ Blk wi r 53 ((ms.set f m).map wordV) ∧ Below w3.heap.size w3 wi) (fun v42 _ => fn.len - (intOf v42).toNat)
        case atStart => exact ⟨0,0,by omega,rfl,NoInv.start a b _,by rw [QB HM0.out];exact HKr0.out,HBr.out⟩
        case round =>
          clear hc0 hc1 hc2 hc3 hcr3 hcf2 hcf hcf3 HKp HKr0
          obtain ⟨i,m,hi,rfl,hni,hki,hbi⟩:=hrel
          have HNi:=kp hni;have HKi:=kp hki;have HBi:=kp hbi
          have hm32 : m < 4294967296:=hni.1
          have hsi:=hbi.size
          have HMf : Kept (((ms.set f m).map wordV)[f]? = some (wordV m)):=kp (by rw [List.getElem?_map,List.getElem?_set_self (by rw [HG.out.len];exact hfl)];rfl)
          by_cases hil : i < fn.len
          · obtain ⟨ad4,x,e4,_,hx,hxok,hn0,hn1,hn2,hn3⟩:=(HNd.out _ hbi).get hil
            have HX:=kp hx;have HXok:=kp hxok;have HE4:=kp e4
            rw [e4]
            have hlri:=hki.lt
            obtain ⟨nn,hnn⟩ : ∃ nn,BitsAre nn (Tl a b x):=⟨_,x9 _⟩
            have HNn:=kp hnn
            have hor : bits .or .u32 (m : Int) (nn : Int) = ((m ||| nn : Nat) : Int):=u32_or_nat m nn hm32 hnn.1
            have HStep:=kp (hni.step hx hnn)
            obtain ⟨qn,hqn⟩ : ∃ qn,m ||| nn = qn:=⟨_,rfl⟩
            rw [hqn] at hor HStep
            clear hni hki hbi hx hxok hnn hqn e4
            go_wp2_with (first
              | ((with_reducible show Sl 13);go_must (refine j7 rfl 66 rfl (ndC ⟨0,0,0,0⟩) jU ?_);intro g5 w6 hg5 hk6 hw6;have HG5:=kp hg5;have HK6:=kp hk6;have HW6:=kp hw6;clear hg5 hk6 hw6)
              | ((with_reducible show Sn);go_must (refine j5 rfl 66 (.tmp 13) (.tmp 45) rfl g5 (ndC x) rfl rfl _ _ HK6.out jD rfl (jK x) ?_);intro w7 hk7 hg7 hs7
                 have HKx7:=kp hk7
                 have HKr7:=kp ((HKi.out.below HW6.out hlri).grown hg7 (fun e => by have h1:=HG5.out;cases e;omega))
                 have HBq7:=kp (HBi.out.trans ((HW6.out.grown hg7 HW6.out.size (fun k hk => by cases hk;exact HG5.out)).mono hsi))
                 have hlr7:=HKr7.out.lt;have hlx7:=hk7.lt;have hs7:=HBq7.out.size
                 clear hk7 hg7 hs7 hn0 hn1 hn2 hn3))
            simp only [uD]
            go_wp2
            apply jJ 9 (.is _ :: .is _ :: .is _ :: .is _ :: .is (.func (.func F) #[] #[]) :: .is (ndA x) :: .is (.int .u32 (nn : Int)) :: .is _ :: .is _ :: [])
              [[],[],[(0,46),(1,47)],[(2,48)],[],[],[(4,50),(5,51)],[(3,49),(6,52)],[(0,46),(1,47)],[(8,54),(7,53)]]
              [(0,46),(1,47),(2,48),(3,49),(4,50),(5,51),(6,52),(7,53),(8,54)] (by kernel_rfl) (by kernel_rfl) (by kernel_rfl) (by kernel_rfl) (by kernel_rfl)
            case hob =>
              refine ⟨?o0,?o1,?o2,?o3,?o4,?o5,?o6,?o7,?o8,trivial⟩
              case o0 => intro W hW;change wpList _ _ _ _ _ _;go_wp2;exact j3 rfl rfl rfl
              case o1 => intro W hW;change wpList _ _ _ _ _ _;go_wp2;exact j3 rfl rfl rfl
              case o2 =>
                intro W hW;rintro _ rfl;rintro _ rfl;change wpList _ _ _ _ _ _
                have hfl:=HFl.out
                go_wp2;exact j3 rfl rfl rfl
              case o3 =>
                intro W hW;rintro _ rfl;change wpList _ _ _ _ _ _
                have hq:=((HKr7.out.below hW hlr7).cell f).trans HMf.out;rw [lW] at hq
                go_wp2;exact j3 rfl rfl rfl
              case o4 => intro W hW;change wpList _ _ _ _ _ _;go_wp2;exact j3 rfl rfl rfl
              case o5 =>
                intro W hW;change wpList _ _ _ _ _ _
                obtain ⟨hx0,hx1,hx2,hx3⟩:=jB (HKx7.out.below hW hlx7)
                rw [show ndA x = .agg #[.int .i64 x.kind,.int .i64 x.arg,.int .i64 x.next,.int .i64 x.alt] from rfl]
                go_wp2;exact j3 rfl rfl rfl
              case o6 =>
                intro W hW;rintro _ rfl;rintro _ rfl;change wpList _ _ _ _ _ _
                obtain ⟨h1,h2,h3⟩:=HT.out
                · have HC:=kp (YN HT.out x HXok.out nn HNn.out W)
                  rw [h1] at HC ⊢
                  clear h1 h2 h3
                  go_wp2_with fail
                  refine (HC.out).mono ?_
                  rintro e w2 ⟨rfl,hb2⟩
                  have HB2:=kp hb2;clear hb2
                  go_wp2
                  exact jE rfl rfl rfl HB2.out rfl
              case o7 => intro W hW;rintro _ rfl;rintro _ rfl;change wpList _ _ _ _ _ _;go_wp2;exact j3 rfl rfl rfl
              case o8 => intro W hW;rintro _ rfl;rintro _ rfl;change wpList _ _ _ _ _ _;go_wp2;exact j3 rfl rfl rfl
            case hend =>
              intro W hW;rintro _ rfl;rintro _ rfl;rintro _ rfl;rintro _ rfl;rintro _ rfl;rintro _ rfl;rintro _ rfl;rintro _ rfl;rintro _ rfl
              simp only [given,jI,List.set,List.drop]
              have HKw:=kp (HKr7.out.below hW hlr7)
              have hcw:=(HKw.out.cell f).trans HMf.out
              rw [lW] at hcw
              have hfw:=HKw.out.frozen f
              have HBw:=kp (HBq7.out.trans (hW.mono HBq7.out.size))
              have hrw:=HKw.out.lt
              go_wp2
              go_roundw
              case rel =>
                refine ⟨i + 1,qn,by omega,by go_num,HStep.out,?_,HBw.out.grown (jX (jS _ _)) HBw.out.size (fun k hk => by cases hk;exact HR4.out)⟩
                have h:=HKw.out.set f (wordV qn)
                rw [← List.map_set,List.set_set] at h
                exact h
              case measure => simp [intOf];omega
          · have hie : fn.len ≤ i:=by omega
            have HOwnN:=kp (hni.end_ (show fn.nodes.length ≤ i by rw [(HNd.out _ hbi).1.len];exact hie))
            obtain ⟨ad3',cm',e3',_,hxc',hcf3'⟩:=(HR3.out.below hbi).get hfl
            rw [HXc.out] at hxc'
            cases hxc'
            cases e3'
            rw [lW] at hcf3'
            have hTi:=HTw.out _ hbi
            have HTi:=kp hTi
            have hTs:=hTi.size
            obtain ⟨cs,hcs⟩ : ∃ cs,S.ids cm 32 = cs:=⟨_,rfl⟩
            obtain ⟨nc,hnc⟩ : ∃ nc,cs.length = nc:=⟨_,rfl⟩
            have hnc32 : nc ≤ 32:=by rw [← hnc,← hcs];exact S.ids_len cm 32
            have HCs:=kp hcs;have HNc:=kp hnc
            have hlri:=hki.lt
            have HAhead : Kept (∀ y ∈ cs,y ∈ l.take k ∧ y ≠ f):=kp (by rw [← hcs];exact fun y hy => YE HOrd.out HXf.out HFn.out HCm.out hy)
            clear hni hki hbi hil hTi hcs hnc
            obtain ⟨sz,hsz⟩ : ∃ sz,wr.heap.size = sz:=⟨_,rfl⟩
            have HSz:=kp hsz
            have hrsz : r < sz:=by omega
            clear hsz
            go_wp2_with (go_at_call 62;go_must (refine (list_any cm hcm32 _ HTi.out hTs).mono ?_);rintro e w8 ⟨v8,rfl,hown8,hb8⟩
                         rw [HCs.out,HSz.out] at hown8
                         obtain ⟨A8,k8,rfl,hk8,hm8,_⟩:=Own.readsN hown8 HNc.out
                         have HO8:=kp hown8
                         have HK8:=kp (HKi.out.below hb8 hlri)
                         have HB8:=kp (HBi.out.trans (hb8.mono hsi))
                         clear hown8 hb8 hcf3'
                         unfold maxLen at hm8)
            go_loopw [62] (fun v62 wj => ∃ (j m : Nat),j ≤ nc ∧ v62 = .int .i64 j ∧ CaInv p a b fn.nodes cs m j ∧ Blk wj r 53 ((ms.set f m).map wordV) ∧ Own wj sz 3 (.slice A8 nc k8) (cs.map natV) ∧ Below w3.heap.size w3 wj) (fun v62 _ => nc - (intOf v62).toNat)
            case atStart => exact ⟨0,m,by omega,rfl,CaInv.start cs HOwnN.out,HK8.out,HO8.out,HB8.out⟩
            case round =>
              clear HK8 HO8 HB8 HKi HBi HMf
              obtain ⟨j,mm,hj,rfl,hcj,hkj,hoj,hbj⟩:=hrel
              have HCj:=kp hcj;have HKr:=kp hkj;have HOj:=kp hoj;have HBj:=kp hbj
              have hmm32 : mm < 4294967296:=hcj.1
              have hlr:=hkj.lt
              have HMf : Kept (((ms.set f mm).map wordV)[f]? = some (wordV mm)):=kp (by rw [List.getElem?_map,List.getElem?_set_self (by rw [HG.out.len];exact hfl)];rfl)
              by_cases hjl : j < nc
              · obtain ⟨A',c',e',_,_,hrow⟩:=hoj.readsN HNc.out
                cases e'
                obtain ⟨ad8,y,rfl,hab8,hy,hcy⟩:=hrow.get hjl
                rw [lG] at hcy
                obtain ⟨hya,hyf⟩:=HAhead.out y (List.mem_of_getElem? hy)
                have hyl : y < p.len:=by
                  obtain ⟨q,hq⟩:=List.mem_iff_getElem?.1 (List.mem_of_mem_take hya)
                  rw [← HLen.out];exact (HOrd.out q y hq).1
                obtain ⟨my,hmy⟩ : ∃ my,ms[y]? = some my:=⟨_,List.getElem?_eq_getElem (by rw [HG.out.len];exact hyl)⟩
                have hby:=HG.out.done y my hmy hya
                have HMy : Kept (((ms.set f mm).map wordV)[y]? = some (wordV my)):=kp (by rw [List.getElem?_map,List.getElem?_set_ne (fun e => hyf e.symm),hmy];rfl)
                have hor : bits .or .u32 (mm : Int) (my : Int) = ((mm ||| my : Nat) : Int):=u32_or_nat mm my hmm32 hby.1
                have HStep:=kp (hcj.step hy hby)
                obtain ⟨qn,hqn⟩ : ∃ qn,mm ||| my = qn:=⟨_,rfl⟩
                rw [hqn] at hor HStep
                have hyi : (y : Int) < (p.len : Int):=by omega
                clear hcj hkj hoj hbj hrow hy hya hyf hmy hby hqn
                go_wp2
                apply jJ 10 (.is _ :: .is _ :: .is _ :: .is _ :: .is _ :: .is _ :: .is _ :: .is _ :: .is _ :: .is _ :: [])
                  [[],[],[(0,66),(1,67)],[(2,68)],[],[],[(4,70),(5,71)],[(6,72)],[(3,69),(7,73)],[(0,66),(1,67)],[(9,75),(8,74)]]
                  [(0,66),(1,67),(2,68),(3,69),(4,70),(5,71),(6,72),(7,73),(8,74),(9,75)] (by kernel_rfl) (by kernel_rfl) (by kernel_rfl) (by kernel_rfl) (by kernel_rfl)
                case hob =>
                  refine ⟨?o0,?o1,?o2,?o3,?o4,?o5,?o6,?o7,?o8,?o9,trivial⟩
                  case o0 => intro W hW;change wpList _ _ _ _ _ _;go_wp2;exact j3 rfl rfl rfl
                  case o1 => intro W hW;change wpList _ _ _ _ _ _;go_wp2;exact j3 rfl rfl rfl
                  case o2 => intro W hW;rintro _ rfl;rintro _ rfl;change wpList _ _ _ _ _ _;go_wp2;exact j3 rfl rfl rfl
                  case o3 =>
                    intro W hW;rintro _ rfl;change wpList _ _ _ _ _ _
                    have hq:=((HKr.out.below hW hlr).cell f).trans HMf.out;rw [lW] at hq
                    go_wp2;exact j3 rfl rfl rfl
                  case o4 => intro W hW;change wpList _ _ _ _ _ _;go_wp2;exact j3 rfl rfl rfl
                  case o5 => intro W hW;change wpList _ _ _ _ _ _;go_wp2;exact j3 rfl rfl rfl
                  case o6 => intro W hW;rintro _ rfl;rintro _ rfl;change wpList _ _ _ _ _ _;go_wp2;exact j3 rfl rfl rfl
                  case o7 =>
                    intro W hW;rintro _ rfl;change wpList _ _ _ _ _ _
                    have hq:=((HKr.out.below hW hlr).cell y).trans HMy.out;rw [lW] at hq
                    go_wp2;exact j3 rfl rfl rfl
                  case o8 => intro W hW;rintro _ rfl;rintro _ rfl;change wpList _ _ _ _ _ _;go_wp2;exact j3 rfl rfl rfl
                  case o9 => intro W hW;rintro _ rfl;rintro _ rfl;change wpList _ _ _ _ _ _;go_wp2;exact j3 rfl rfl rfl
                case hend =>
                  intro W hW;rintro _ rfl;rintro _ rfl;rintro _ rfl;rintro _ rfl;rintro _ rfl;rintro _ rfl;rintro _ rfl;rintro _ rfl;rintro _ rfl;rintro _ rfl
                  simp only [given,jI,List.set,List.drop]
                  have HKw:=kp (HKr.out.below hW hlr)
                  have hcw:=(HKw.out.cell f).trans HMf.out
                  rw [lW] at hcw
                  have hfw:=HKw.out.frozen f
                  have HBw:=kp (HBj.out.trans (hW.mono HBj.out.size))
                  have HOw:=kp (HOj.out.below hW (Nat.le_refl _))
                  have hrw:=HKw.out.lt
                  go_wp2
                  go_roundw
                  case rel =>
                    refine ⟨j + 1,qn,by omega,by go_num,HStep.out,?_,HOw.out.far (jX (jS _ _)) (.inr fun e => by have:=(HOw.out.block r e).1;omega),HBw.out.grown (jX (jS _ _)) HBw.out.size (fun k hk => by cases hk;exact HR4.out)⟩
                    have h:=HKw.out.set f (wordV qn)
                    rw [← List.map_set,List.set_set] at h
                    exact h
                  case measure => simp [intOf];omega
              · have hje : nc ≤ j:=by omega
                have HM : Kept (BitsAre mm (MayDo p a b f)):=kp (hcj.end_ (by rw [HNc.out];exact hje) HLen.out (by omega) HFn.out HCm.out HCs.out (fun y hy => by have h1:=x6 HF.out HLen.out hy;rw [← HLen.out];exact h1))
                clear hcj hkj hoj hbj hjl
                go_wp2
                go_roundw
                case rel => exact ⟨k + 1,ms.set f mm,by omega,by go_num,HG.out.step HXf.out hfl HM.out,HKr.out,HBj.out⟩
                case measure => simp [intOf];omega
      · have hke : p.len ≤ k:=by omega
        have HE : Kept (ms = ms9):=kp (by
          rw [← HMs9.out,uO]
          refine killL_is HG.out.len fun g m hm => HG.out.done g m hm ?_
          have hgl : g < p.len:=by have:=(List.getElem?_eq_some_iff.1 hm).1;rwa [HG.out.len] at this
          rw [List.take_of_length_le (by rw [HLL.out];exact hke)]
          exact ord_all HOrd.out HLen.out HLL.out hgl)
        have HL : Kept (ms.length = p.len):=kp HG.out.len
        clear hgi hkr hbr hlt
        go_wp2
        go_ret2
        refine ⟨_,rfl,?_,HW3.out.trans (HBr.out.mono hs3)⟩
        rw [← HE.out]
        have h:=Blk.own (xs:=ms.map wordV) (B:=w.heap.size) HKr0.out (Nat.le_trans hs3 HR4.out) (cap:=p.len) (by rw [List.length_map,HL.out]) (by rw [List.length_map,HL.out];exact Nat.le_refl _) (by unfold maxLen;omega) (List.take_length ..)
        rw [List.length_map,HL.out] at h
        exact h
  · have hzb : ((c : Int) != (0 : Int)) = true:=by simp;omega
    have HE : Kept (ms9 = []):=kp (by rw [← HMs9.out,uP p a b hz])
    clear hz
    go_enter Tryd.func36,Tryd.ntmps36
    go_wp2_with (first
      | ((with_reducible refine j4 rfl 24 (.tmp 0) rfl (pgC p) rfl ?_);intro g1 w1 hg1 hk1 hw1;have HW1:=kp hw1;have hs1:=hw1.size;have HP1:=kp (HP.out.below (hw1.mono hB));obtain ⟨hc0,hc1,hc2,hc3⟩:=j8 hk1;clear hg1 hk1 hw1)
      | (go_at_call 60;go_must (refine (vO B p w1 HP1.out (Nat.le_trans hB hs1) HS.out c0 c1 c HC.out).mono ?_);rintro e w2 ⟨v2,l,rfl,_,_,_,hb2⟩
         have HW2:=kp (HW1.out.trans (hb2.mono hs1));clear hb2 hc0 hc1 hc2 hc3))
    go_ret2
    exact ⟨_,rfl,by rw [HE.out];exact Own.nil _ _ _,HW2.out⟩
end Go.Proofs.YtoekiejipdabmaaDoor
