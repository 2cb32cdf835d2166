/- The document's Node, walked. -/
import Derived.Test.YtoekiejipdabmaaDoorPk8
import Derived.Test.YtoekiejipdabmaaDoorPk9
import Derived.Test.YtoekiejipdabmaaDoorKillR1
import Derived.Test.YtoekiejipdabmaaDoorPk10
namespace Go.Proofs.YtoekiejipdabmaaDoor
open Go.RowKit
theorem XB {p : Pg} {bg a : Nat} {cs : List Nat} (hb : BitsAre bg (fun f => f < p.len ∧ ∃ id,id < 32 ∧ MayDo p 5 5 f id)) (ha : a < p.len) (h32 : p.len ≤ 32) (hc : setL (MayDo p 5 5 a) = cs) : S.has bg (a : Int) = decide (0 < cs.length):=by
  rw [S.has_in _ _ (by omega),Bool.eq_iff_iff,hb.2 a (by omega),decide_eq_true_eq,List.length_pos_iff_exists_mem]
  constructor
  · rintro ⟨_,id,h1,h2⟩
    exact ⟨id,by rw [← hc];exact JY.2 ⟨h1,h2⟩⟩
  · rintro ⟨id,h1⟩
    rw [← hc] at h1
    exact ⟨ha,id,JY.1 h1⟩
set_option maxRecDepth 1000000 in
set_option maxHeartbeats 8000000 in
theorem QM (B : Nat) (p : Pg) (w : World) (hp : p.Ok w B) (hB : B ≤ w.heap.size) (hs : Q.small p = true) (h32 : p.len ≤ 32) (lA : Option Addr) (lc : Nat) (ls : List Sc) (hl : Secs w B lA p.len ls)
    (f i : Nat) (s : Sc) (fn : Fn) (n : Nd) (hls : ls[f]? = some s) (hfn : p.fns[f]? = some fn) (hnd : fn.nodes[i]? = some n) (hsl : s.live.len = fn.len) (hfit : CallFit16 p.len n) (hsf : SuccFit s.live.len n)
    (bg : Nat) (hbg : BitsAre bg (fun f => f < p.len ∧ ∃ id,id < 32 ∧ MayDo p 5 5 f id)) (r : Nat) (hr : Ma.node bg p.s ls s n (s.live.z.getD i 0) = r) :
    Calls Tryd.prog 26 #[pgA p,.slice lA p.len lc,.int .i64 (f : Int),.int .i64 (i : Int)] w fun e w' => e = .returned (.int .i64 (r : Int)) ∧ Below w.heap.size w w':=by
  have hfl : f < p.len:=by rw [← hl.len_];exact (List.getElem?_eq_some_iff.1 hls).1
  obtain ⟨adL,s',eL,hbL,hs',hsok,hj3,hS4,hS5⟩:=hl.get16 hfl
  clear hj3
  obtain rfl : s = s':=by rw [hls] at hs';exact Option.some.inj hs'
  obtain ⟨adP,fn',eP,hbP,hfn',hfok,hcf⟩:=hp.fn hfl
  obtain rfl : fn = fn':=by rw [hfn] at hfn';exact Option.some.inj hfn'
  have hil : i < fn.len:=by rw [← hfok.nodes.1.len];exact (List.getElem?_eq_some_iff.1 hnd).1
  obtain ⟨adF,n',eF,hbF,hnd',hnok,hN0,hN1,hN2,hN3⟩:=hfok.nodes.get hil
  obtain rfl : n = n':=by rw [hnd] at hnd';exact Option.some.inj hnd'
  obtain ⟨adH,eH,hbH,hj0,hh,hHc⟩:=hsok.live.get (k:=i) (by omega)
  clear hj0
  obtain ⟨h,hhe⟩ : ∃ h,s.live.z.getD i 0 = h:=⟨_,rfl⟩
  rw [hhe] at hh hHc hr
  rw [eH] at hS5
  rw [eF] at hcf
  have HP:=kp hp;have HL:=kp hl;have HS:=kp hs;have HR:=kp hr;have HFit:=kp hfit;have HSf:=kp hsf;have HNok:=kp hnok;have HSok:=kp hsok;have EH:=kp eH;have HBg:=kp hbg
  have HS4:=kp hS4;have HS5:=kp hS5;have HCf:=kp hcf;have HN0:=kp hN0;have HN1:=kp hN1;have HN2:=kp hN2;have HN3:=kp hN3;have HHc:=kp hHc
  have EP:=kp eP;have HPs:=kp hp.s
  have hpc:=hp.lc;have hpm:=hp.cm
  have hfc:=hfok.lc;have hfm:=hfok.cm
  have hvc:=hsok.live.lc;have hvm:=hsok.live.cm
  have hlx:=hsok.lx
  unfold maxLen at hpm hfm hvm
  obtain ⟨nl,hnl⟩ : ∃ nl,(Q.succ n).length = nl:=⟨_,rfl⟩
  have HNl:=kp hnl
  have hnl2 : nl ≤ 2:=by rw [← hnl];unfold Q.succ;split <;> (try split) <;> simp
  have hfi : (f : Int) < (p.len : Int):=by omega
  have hii : (i : Int) < (fn.len : Int):=by omega
  have hih : (i : Int) < (s.live.len : Int):=by omega
  obtain ⟨bq,hbqe⟩ : ∃ bq,Ma.beh bg p.s ls n h = bq:=⟨_,rfl⟩
  have HBqe:=kp hbqe
  subst eL
  have HSl:=kp hsl
  clear hp hl hs hr hfit hsf hnok hsok eH eP eF hS4 hS5 hcf hN0 hN1 hN2 hN3 hHc hnl hs' hfn' hnd' hfok hhe hls hfn hnd hsl hbg hbqe
  rw [jM]
  go_enter Tryd.func26,Tryd.ntmps26
  by_cases h7 : n.kind = 7
  · have hk7 : (n.kind == 7) = true:=by simpa using h7
    have hk9 : (n.kind == 9) = false:=by rw [h7];rfl
    have hk5 : (n.kind == 5) = false:=by rw [h7];rfl
    obtain ⟨ka,hka,hkl⟩:=HFit.out (.inl h7)
    obtain ⟨_,x,e0,hb0,hx,hxok,hd3,hd4,hj5⟩:=HL.out.get16 hkl
    cases e0
    clear hj5
    have HCe:=kp hd3;have HCx:=kp hd4
    have hxe:=hxok.le
    have hx2 : ls.getD ka default = x:=by rw [List.getD_eq_getElem?_getD,hx];rfl
    obtain ⟨ex,hexe⟩ : ∃ ex,x.lx = ex:=⟨_,rfl⟩
    have hex : ex < 4294967296:=by rw [← hexe];exact hxok.lx
    rw [hexe] at HCx
    obtain ⟨gb,hgb⟩ : ∃ gb : Bool,gb = false:=⟨_,rfl⟩
    have HBeh : Kept (Ma.behind n h ex p.s false = bq):=kp (by
      rw [← HBqe.out]
      unfold Ma.beh Ma.exit_
      rw [if_pos h7,hka,Int.toNat_natCast,hx2,hexe]
      unfold Ma.behind
      rw [if_neg (by omega),if_neg (by omega),if_pos h7,if_neg (by omega)])
    obtain ⟨r5,hr5⟩ : ∃ r5,S.within h x.le 32 = r5:=⟨_,rfl⟩
    have HR5:=kp hr5
    have hki : (ka : Int) < (p.len : Int):=by omega
    have HKa2:=kp hka
    cases r5 with
    | false =>
      have HE : Kept (6 = r):=kp (by rw [← HR.out];exact (Ma.node_call h7 (by rw [hka,Int.toNat_natCast,hx2];exact hr5)).symm)
      clear h7 hka hx hxok hx2 hr5 hd3 hd4 hexe hgb
      go_wp2_with (first
        | ((with_reducible refine j4 rfl 24 (.tmp 0) rfl (pgC p) rfl ?_);intro g1 w1 hg1 hk1 hw1;have HW1:=kp hw1;have HK1:=kp hk1;have hs1:=hw1.size;obtain ⟨hc0,hc1,hc2,hc3⟩:=j8 hk1;rw [EP.out] at hc3
           have hcf:=(HW1.out.cell (p:=adP.add f) (by rw [add_block];omega)).trans HCf.out;have hn0:=(HW1.out.cell (p:=adF.add (i * 4)) (by rw [add_block];omega)).trans HN0.out;have hn1:=(HW1.out.cell (p:=⟨(adF.add (i * 4)).block,(adF.add (i * 4)).off + 1,none⟩) (by show (adF.add (i * 4)).block < _;rw [add_block];omega)).trans HN1.out;have hn2:=(HW1.out.cell (p:=⟨(adF.add (i * 4)).block,(adF.add (i * 4)).off + 2,none⟩) (by show (adF.add (i * 4)).block < _;rw [add_block];omega)).trans HN2.out;have hn3:=(HW1.out.cell (p:=⟨(adF.add (i * 4)).block,(adF.add (i * 4)).off + 3,none⟩) (by show (adF.add (i * 4)).block < _;rw [add_block];omega)).trans HN3.out
           clear hg1 hk1 hw1)
        | ((with_reducible show Sl 9);go_must (refine j7 rfl 66 rfl (ndC ⟨0,0,0,0⟩) lY ?_);intro gN w2 hgN hk2 hb2;have HGN:=kp hgN;have HK2:=kp hk2;have HW2:=kp (HW1.out.trans (hb2.mono hs1));have hs2:=HW2.out.size;have HKp:=kp (HK1.out.below hb2 HK1.out.lt);clear hgN hk2 hb2 hc0 hc1 hc2 hc3 hcf hn0 hn1 hn2 hn3)
        | ((with_reducible show Sn);go_must (refine j5 rfl 66 (.tmp 9) (.tmp 23) rfl gN (ndC n) rfl rfl _ _ HK2.out jD rfl (jK n) ?_);intro w3 hk3 hg3 hz3
           have HK3:=kp hk3;have HW3:=kp (HW2.out.grown hg3 hs2 (fun k e => by cases e;have:=HGN.out;omega));have hs3:=HW3.out.size
           have HK3p:=kp (HKp.out.grown hg3 (fun e => by cases e;have:=HGN.out;have:=HK1.out.lt;omega))
           obtain ⟨hm0,hm1,hm2,hm3⟩:=jB hk3;obtain ⟨hc0,hc1,hc2,hc3⟩:=j8 HK3p.out
           have hs4_:=(HW3.out.cell (p:=⟨(adL.add (f * 6)).block,(adL.add (f * 6)).off + 4,none⟩) (by show (adL.add (f * 6)).block < _;rw [add_block];omega)).trans HS4.out;have hs5_:=(HW3.out.cell (p:=⟨(adL.add (f * 6)).block,(adL.add (f * 6)).off + 5,none⟩) (by show (adL.add (f * 6)).block < _;rw [add_block];omega)).trans HS5.out;have hh_:=(HW3.out.cell (p:=adH.add i) (by rw [add_block];omega)).trans HHc.out;have hlx_:=(HW3.out.cell (p:=⟨(adL.add (ka * 6)).block,(adL.add (ka * 6)).off + 4,none⟩) (by show (adL.add (ka * 6)).block < _;rw [add_block];omega)).trans HCx.out;have hle_:=(HW3.out.cell (p:=⟨(adL.add (ka * 6)).block,(adL.add (ka * 6)).off + 3,none⟩) (by show (adL.add (ka * 6)).block < _;rw [add_block];omega)).trans HCe.out;rw [HKa2.out] at hm1
           clear hk3 hg3 hz3)
        | (go_at_call 25;go_must (refine (qQ h x.le hh hxe _ HR5.out _).mono ?_);rintro e w9 ⟨rfl,rfl⟩))
      go_ret
      exact ⟨by rw [← HE.out];rfl,HW3.out⟩
    | true =>
      have HPast : Kept (Ma.Past p.s ls s n h):=kp ⟨fun h1 => (by have h2:=h1.2;rw [hka,Int.toNat_natCast,hx2,hr5] at h2;cases h2),fun h1 => (by have h2:=h1.1;omega),fun h1 => (by have h2:=h1.1;omega)⟩
      clear h7 hka hx hxok hx2 hr5 hd3 hd4 hexe hgb
      go_wp2_with (first
        | ((with_reducible refine j4 rfl 24 (.tmp 0) rfl (pgC p) rfl ?_);intro g1 w1 hg1 hk1 hw1;have HW1:=kp hw1;have HK1:=kp hk1;have hs1:=hw1.size;obtain ⟨hc0,hc1,hc2,hc3⟩:=j8 hk1;rw [EP.out] at hc3
           have hcf:=(HW1.out.cell (p:=adP.add f) (by rw [add_block];omega)).trans HCf.out;have hn0:=(HW1.out.cell (p:=adF.add (i * 4)) (by rw [add_block];omega)).trans HN0.out;have hn1:=(HW1.out.cell (p:=⟨(adF.add (i * 4)).block,(adF.add (i * 4)).off + 1,none⟩) (by show (adF.add (i * 4)).block < _;rw [add_block];omega)).trans HN1.out;have hn2:=(HW1.out.cell (p:=⟨(adF.add (i * 4)).block,(adF.add (i * 4)).off + 2,none⟩) (by show (adF.add (i * 4)).block < _;rw [add_block];omega)).trans HN2.out;have hn3:=(HW1.out.cell (p:=⟨(adF.add (i * 4)).block,(adF.add (i * 4)).off + 3,none⟩) (by show (adF.add (i * 4)).block < _;rw [add_block];omega)).trans HN3.out
           clear hg1 hk1 hw1)
        | ((with_reducible show Sl 9);go_must (refine j7 rfl 66 rfl (ndC ⟨0,0,0,0⟩) lY ?_);intro gN w2 hgN hk2 hb2;have HGN:=kp hgN;have HK2:=kp hk2;have HW2:=kp (HW1.out.trans (hb2.mono hs1));have hs2:=HW2.out.size;have HKp:=kp (HK1.out.below hb2 HK1.out.lt);clear hgN hk2 hb2 hc0 hc1 hc2 hc3 hcf hn0 hn1 hn2 hn3)
        | ((with_reducible show Sn);go_must (refine j5 rfl 66 (.tmp 9) (.tmp 23) rfl gN (ndC n) rfl rfl _ _ HK2.out jD rfl (jK n) ?_);intro w3 hk3 hg3 hz3
           have HK3:=kp hk3;have HW3:=kp (HW2.out.grown hg3 hs2 (fun k e => by cases e;have:=HGN.out;omega));have hs3:=HW3.out.size
           have HK3p:=kp (HKp.out.grown hg3 (fun e => by cases e;have:=HGN.out;have:=HK1.out.lt;omega))
           obtain ⟨hm0,hm1,hm2,hm3⟩:=jB hk3;obtain ⟨hc0,hc1,hc2,hc3⟩:=j8 HK3p.out
           have hs4_:=(HW3.out.cell (p:=⟨(adL.add (f * 6)).block,(adL.add (f * 6)).off + 4,none⟩) (by show (adL.add (f * 6)).block < _;rw [add_block];omega)).trans HS4.out;have hs5_:=(HW3.out.cell (p:=⟨(adL.add (f * 6)).block,(adL.add (f * 6)).off + 5,none⟩) (by show (adL.add (f * 6)).block < _;rw [add_block];omega)).trans HS5.out;have hh_:=(HW3.out.cell (p:=adH.add i) (by rw [add_block];omega)).trans HHc.out;have hlx_:=(HW3.out.cell (p:=⟨(adL.add (ka * 6)).block,(adL.add (ka * 6)).off + 4,none⟩) (by show (adL.add (ka * 6)).block < _;rw [add_block];omega)).trans HCx.out;have hle_:=(HW3.out.cell (p:=⟨(adL.add (ka * 6)).block,(adL.add (ka * 6)).off + 3,none⟩) (by show (adL.add (ka * 6)).block < _;rw [add_block];omega)).trans HCe.out;rw [HKa2.out] at hm1
           clear hk3 hg3 hz3)
        | (go_at_call 25;go_must (refine (qQ h x.le hh hxe _ HR5.out _).mono ?_);rintro e w9 ⟨rfl,rfl⟩)
        | ((with_reducible show Sl 82);go_must (refine j6 rfl 66 (.tmp 9) rfl gN rfl _ (ndC n) _ HK3.out Tryd.underlying66 rfl jD ?_))
        | (go_at_call 43;fail))
      have HWv:=kp HW3.out;have HKpv:=kp HK3p.out;have HKnv:=kp HK3.out
      refine (zF n _).mono ?_
      rintro e w5 ⟨v4,rfl,hown4,hb4⟩
      obtain ⟨A4,c4,rfl,hcl4,hcm4,hr4⟩:=hown4.readsN HNl.out
      have HR4:=kp hr4;have HW5:=kp (HWv.out.trans (hb4.mono HWv.out.size));have hs5:=HW5.out.size
      have HKp5:=kp (HKpv.out.below hb4 HKpv.out.lt);have HKn5:=kp (HKnv.out.below hb4 HKnv.out.lt)
      unfold maxLen at hcm4
      clear hown4 hr4 hb4 hm0 hm1 hm2 hm3 hc0 hc1 hc2 hc3 hs4_ hs5_ hh_ hlx_ hle_
      go_wp2
      go_loopw [14] (fun v14 wr => ∃ k : Nat,k ≤ nl ∧ v14 = .int .i64 k ∧ (∀ to ∈ (Q.succ n).take k,Ma.badTo bg p.s ls s n h to = false) ∧ Below w5.heap.size w5 wr) (fun v14 _ => nl - (intOf v14).toNat)
      case atStart => exact ⟨0,by omega,rfl,fun to ht => by simp at ht,Below.refl _ _⟩
      case round =>
        obtain ⟨k,hk,rfl,hall,hbo⟩:=hrel
        have HAll:=kp hall;have HBo0:=kp hbo
        have HWo0:=kp (HW5.out.trans (hbo.mono hs5))
        clear hall hbo
        by_cases hlt : k < nl
        · obtain ⟨ad4,to,rfl,hb4,hto,hj0⟩:=HR4.out.get hlt
          clear hj0
          have HTo:=kp hto
          have htm:=List.mem_of_getElem? hto
          obtain ⟨t,ht,htl⟩:=HSf.out to htm
          subst ht
          have HTm:=kp htm
          obtain ⟨ad5,e5,hb5,hj0,hhv,hc5⟩:=HSok.out.live.get htl
          clear hj0
          obtain ⟨hv,hhve⟩ : ∃ hv,s.live.z.getD t 0 = hv:=⟨_,rfl⟩
          rw [hhve] at hhv hc5
          obtain rfl : adH = ad5:=by rw [EH.out] at e5;exact Option.some.inj e5
          have HC50:=kp hc5;have HHv : Kept (s.live.z.getD t 0 = hv):=kp hhve
          have hti : (t : Int) < (s.live.len : Int):=by omega
          have hki : (k : Int) < (nl : Int):=by omega
          clear hto htm hhve hc5 e5
          go_wp2
          go_loopw [15] (fun v15 wr => ∃ lk : Nat,lk ≤ 32 ∧ v15 = .int .i64 lk ∧ (∀ j,j < lk → bq.testBit j = true → hv.testBit j = true) ∧ Below w5.heap.size w5 wr) (fun v15 _ => 32 - (intOf v15).toNat)
          case atStart => exact ⟨0,by omega,rfl,fun j hj => by omega,HBo0.out⟩
          case round =>
            clear HBo0 HWo0
            obtain ⟨lk,hlk32,rfl,hall2,hbr⟩:=hrel
            have HAll2:=kp hall2;have HBr:=kp hbr
            have HWr:=kp (HW5.out.trans (hbr.mono hs5))
            have hsr:=hbr.size;have hsWr:=HWr.out.size
            have HKpr:=kp (HKp5.out.below hbr HKp5.out.lt);have HKnr:=kp (HKn5.out.below hbr HKn5.out.lt)
            by_cases hlk : lk < 32
            · have HS5r:=kp ((HWr.out.cell (p:=⟨(adL.add (f * 6)).block,(adL.add (f * 6)).off + 5,none⟩) (by show (adL.add (f * 6)).block < _;rw [add_block];omega)).trans HS5.out)
              have HC5:=kp ((HWr.out.cell (p:=adH.add t) (by rw [add_block];omega)).trans HC50.out)
              have HCt : Kept (wr.cell? (ad4.add k) = some (.int .i64 (t : Int))):=kp (by
                obtain ⟨ad',y,e',_,hy',hc'⟩:=(HR4.out.below hbr).get hlt
                cases e'
                rw [HTo.out] at hy';cases hy'
                exact hc')
              have had4 : ad4.block < wr.heap.size:=by omega
              have hlkb : decide ((lk : Int) < (32 : Int)) = true:=by simp;omega
              obtain ⟨fh,hfh⟩ : ∃ q,hv.testBit lk = q:=⟨_,rfl⟩
              have HFhb:=kp hfh
              have HFh : Kept (S.has hv (lk : Int) = fh):=kp (by rw [S.has_in _ _ (by omega)];exact hfh)
              obtain ⟨bb,hbb⟩ : ∃ q,bq.testBit lk = q:=⟨_,rfl⟩
              have HBqb:=kp hbb
              have HBb : Kept ((Ma.behind n h ex p.s false).testBit lk = bb):=kp (by rw [HBeh.out];exact hbb)
              clear hall2 hbr hfh hbb
              cases bb with
              | false =>
                go_wp2
                apply jR (.is (ndA n) :: .is _ :: .is _ :: .is _ :: .is (.int .i64 p.s) :: .is _ :: .is _ :: .is (.bool false) :: .is _ :: .is undef :: .is undef :: .is undef :: .is undef :: .is undef :: .is undef :: .is undef :: .is undef :: .is undef :: .is undef :: .is undef :: .is undef :: .is undef :: .is undef :: .is (.bool false) :: [])
                  [[],[],[],[],[(3,97)],[],[],[(0,94),(1,95),(2,96),(4,98),(5,99),(6,100)],[(7,101)],[(8,102)],[(8,102)],[(9,103),(10,104),(8,102)],[(11,105),(8,102)],[(12,106),(8,102)],[(8,102)],[(8,102)],[(14,108),(15,109),(8,102)],[(16,110),(8,102)],[(13,107),(17,111),(8,102)],[(18,112),(8,102)],[(8,102)],[(19,113),(20,114),(8,102)],[(21,115),(8,102)],[(8,102),(22,116)]]
                  [(0,94),(1,95),(2,96),(3,97),(4,98),(5,99),(6,100),(7,101),(8,102),(9,103),(10,104),(11,105),(12,106),(13,107),(14,108),(15,109),(16,110),(17,111),(18,112),(19,113),(20,114),(21,115),(22,116),(23,117)] (by kernel_rfl) (by kernel_rfl)
                case hob =>
                  refine ⟨?o0,?o1,?o2,?o3,?o4,?o5,?o6,?o7,?o8,?o9,?o10,?o11,?o12,?o13,?o14,?o15,?o16,?o17,?o18,?o19,?o20,?o21,?o22,?o23,trivial⟩
                  case o0 =>
                    intro W hW;change wpList _ _ _ _ _ _
                    go_must (refine jN rfl 66 (.tmp 9) rfl gN rfl _ (ndC n) _ (HKnr.out.below hW HKnr.out.lt) Tryd.underlying66 rfl jD ?_)
                    go_wp2;exact j3 rfl rfl rfl
                  case o1 => intro W hW;change wpList _ _ _ _ _ _;go_wp2;exact j3 rfl rfl rfl
                  case o2 => intro W hW;change wpList _ _ _ _ _ _;go_wp2;exact j3 rfl rfl rfl
                  case o3 => intro W hW;change wpList _ _ _ _ _ _;go_wp2;exact j3 rfl rfl rfl
                  case o4 =>
                    intro W hW;rintro _ rfl;change wpList _ _ _ _ _ _
                    have hq:=(HKpr.out.below hW HKpr.out.lt).cell 2
                    simp only [pgC,List.getElem?_cons_zero,List.getElem?_cons_succ] at hq
                    go_wp2;exact j3 rfl rfl rfl
                  case o5 => intro W hW;change wpList _ _ _ _ _ _;go_wp2;exact j3 rfl rfl rfl
                  case o6 => intro W hW;change wpList _ _ _ _ _ _;go_wp2;exact j3 rfl rfl rfl
                  case o7 =>
                    intro W hW;rintro _ rfl;rintro _ rfl;rintro _ rfl;rintro _ rfl;rintro _ rfl;rintro _ rfl;change wpList _ _ _ _ _ _
                    go_wp2_with fail
                    refine (lI n HNok.out h ex hh hex p.s false lk hlk false HBb.out W).mono ?_
                    rintro e w2 ⟨rfl,hb2⟩
                    have HBq:=kp hb2;clear hb2
                    go_wp2
                    exact jE rfl rfl rfl HBq.out rfl
                  case o8 => intro W hW;rintro _ rfl;change wpList _ _ _ _ _ _;go_wp2;exact j3 rfl rfl rfl
                  case o9 =>
                    intro W hW;rintro _ rfl;change wpList _ _ _ _ _ _
                    exact jC _ rfl rfl rfl rfl
                  case o10 =>
                    intro W hW;rintro _ rfl;change wpList _ _ _ _ _ _
                    exact jC _ rfl rfl rfl rfl
                  case o11 =>
                    intro W hW;rintro _ rfl;rintro _ rfl;rintro _ rfl;change wpList _ _ _ _ _ _
                    exact jC _ rfl rfl rfl rfl
                  case o12 =>
                    intro W hW;rintro _ rfl;rintro _ rfl;change wpList _ _ _ _ _ _
                    exact jC _ rfl rfl rfl rfl
                  case o13 =>
                    intro W hW;rintro _ rfl;rintro _ rfl;change wpList _ _ _ _ _ _
                    exact jC _ rfl rfl rfl rfl
                  case o14 =>
                    intro W hW;rintro _ rfl;change wpList _ _ _ _ _ _
                    exact jC _ rfl rfl rfl rfl
                  case o15 =>
                    intro W hW;rintro _ rfl;change wpList _ _ _ _ _ _
                    exact jC _ rfl rfl rfl rfl
                  case o16 =>
                    intro W hW;rintro _ rfl;rintro _ rfl;rintro _ rfl;change wpList _ _ _ _ _ _
                    exact jC _ rfl rfl rfl rfl
                  case o17 =>
                    intro W hW;rintro _ rfl;rintro _ rfl;change wpList _ _ _ _ _ _
                    exact jC _ rfl rfl rfl rfl
                  case o18 =>
                    intro W hW;rintro _ rfl;rintro _ rfl;rintro _ rfl;change wpList _ _ _ _ _ _
                    exact jC _ rfl rfl rfl rfl
                  case o19 =>
                    intro W hW;rintro _ rfl;rintro _ rfl;change wpList _ _ _ _ _ _
                    exact jC _ rfl rfl rfl rfl
                  case o20 =>
                    intro W hW;rintro _ rfl;change wpList _ _ _ _ _ _
                    exact jC _ rfl rfl rfl rfl
                  case o21 =>
                    intro W hW;rintro _ rfl;rintro _ rfl;rintro _ rfl;change wpList _ _ _ _ _ _
                    exact jC _ rfl rfl rfl rfl
                  case o22 =>
                    intro W hW;rintro _ rfl;rintro _ rfl;change wpList _ _ _ _ _ _
                    exact jC _ rfl rfl rfl rfl
                  case o23 => intro W hW;rintro _ rfl;rintro _ rfl;change wpList _ _ _ _ _ _;go_wp2;exact j3 rfl rfl rfl
                case hend =>
                  intro W hW;rintro _ rfl;rintro _ rfl;rintro _ rfl;rintro _ rfl;rintro _ rfl;rintro _ rfl;rintro _ rfl;rintro _ rfl;rintro _ rfl;rintro _ rfl;rintro _ rfl;rintro _ rfl;rintro _ rfl;rintro _ rfl;rintro _ rfl;rintro _ rfl;rintro _ rfl;rintro _ rfl;rintro _ rfl;rintro _ rfl;rintro _ rfl;rintro _ rfl;rintro _ rfl;rintro _ rfl
                  simp only [given,jI,List.set]
                  have HBo:=kp (HBr.out.trans (hW.mono HBr.out.size))
                  have HWo:=kp (HWr.out.trans (hW.mono HWr.out.size))
                  clear hW
                  have HThis : Kept (bq.testBit lk = true → hv.testBit lk = true):=kp (fun e => by rw [HBqb.out] at e;cases e)
                  go_wp2
                  go_roundw
                  case rel => exact ⟨lk + 1,by omega,by go_num,(fun j hj hb1 => by
                    by_cases e : j = lk
                    · subst e;exact HThis.out hb1
                    · exact HAll2.out j (by omega) hb1),HBo.out⟩
                  case measure => simp [intOf];omega
              | true =>
                go_wp2
                apply jR (.is (ndA n) :: .is _ :: .is _ :: .is _ :: .is (.int .i64 p.s) :: .is _ :: .is _ :: .is (.bool true) :: .is _ :: .is _ :: .is _ :: .is _ :: .is _ :: .is (.slice (some adH) s.live.len s.live.cap) :: .is _ :: .is _ :: .is _ :: .is (.int .i64 (t : Int)) :: .is _ :: .is (.int .u32 (hv : Int)) :: .is _ :: .is (.bool fh) :: .is (.bool (!fh)) :: .is (.bool (!fh)) :: [])
                  [[],[],[],[],[(3,97)],[],[],[(0,94),(1,95),(2,96),(4,98),(5,99),(6,100)],[(7,101)],[(8,102)],[(8,102)],[(9,103),(10,104),(8,102)],[(11,105),(8,102)],[(12,106),(8,102)],[(8,102)],[(8,102)],[(14,108),(15,109),(8,102)],[(16,110),(8,102)],[(13,107),(17,111),(8,102)],[(18,112),(8,102)],[(8,102)],[(19,113),(20,114),(8,102)],[(21,115),(8,102)],[(8,102),(22,116)]]
                  [(0,94),(1,95),(2,96),(3,97),(4,98),(5,99),(6,100),(7,101),(8,102),(9,103),(10,104),(11,105),(12,106),(13,107),(14,108),(15,109),(16,110),(17,111),(18,112),(19,113),(20,114),(21,115),(22,116),(23,117)] (by kernel_rfl) (by kernel_rfl)
                case hob =>
                  refine ⟨?o0,?o1,?o2,?o3,?o4,?o5,?o6,?o7,?o8,?o9,?o10,?o11,?o12,?o13,?o14,?o15,?o16,?o17,?o18,?o19,?o20,?o21,?o22,?o23,trivial⟩
                  case o0 =>
                    intro W hW;change wpList _ _ _ _ _ _
                    go_must (refine jN rfl 66 (.tmp 9) rfl gN rfl _ (ndC n) _ (HKnr.out.below hW HKnr.out.lt) Tryd.underlying66 rfl jD ?_)
                    go_wp2;exact j3 rfl rfl rfl
                  case o1 => intro W hW;change wpList _ _ _ _ _ _;go_wp2;exact j3 rfl rfl rfl
                  case o2 => intro W hW;change wpList _ _ _ _ _ _;go_wp2;exact j3 rfl rfl rfl
                  case o3 => intro W hW;change wpList _ _ _ _ _ _;go_wp2;exact j3 rfl rfl rfl
                  case o4 =>
                    intro W hW;rintro _ rfl;change wpList _ _ _ _ _ _
                    have hq:=(HKpr.out.below hW HKpr.out.lt).cell 2
                    simp only [pgC,List.getElem?_cons_zero,List.getElem?_cons_succ] at hq
                    go_wp2;exact j3 rfl rfl rfl
                  case o5 => intro W hW;change wpList _ _ _ _ _ _;go_wp2;exact j3 rfl rfl rfl
                  case o6 => intro W hW;change wpList _ _ _ _ _ _;go_wp2;exact j3 rfl rfl rfl
                  case o7 =>
                    intro W hW;rintro _ rfl;rintro _ rfl;rintro _ rfl;rintro _ rfl;rintro _ rfl;rintro _ rfl;change wpList _ _ _ _ _ _
                    go_wp2_with fail
                    refine (lI n HNok.out h ex hh hex p.s false lk hlk true HBb.out W).mono ?_
                    rintro e w2 ⟨rfl,hb2⟩
                    have HBq:=kp hb2;clear hb2
                    go_wp2
                    exact jE rfl rfl rfl HBq.out rfl
                  case o8 => intro W hW;rintro _ rfl;change wpList _ _ _ _ _ _;go_wp2;exact j3 rfl rfl rfl
                  case o9 => intro W hW;rintro _ rfl;change wpList _ _ _ _ _ _;go_wp2;exact j3 rfl rfl rfl
                  case o10 => intro W hW;rintro _ rfl;change wpList _ _ _ _ _ _;go_wp2;exact j3 rfl rfl rfl
                  case o11 => intro W hW;rintro _ rfl;rintro _ rfl;rintro _ rfl;change wpList _ _ _ _ _ _;go_wp2;exact j3 rfl rfl rfl
                  case o12 => intro W hW;rintro _ rfl;rintro _ rfl;change wpList _ _ _ _ _ _;go_wp2;exact j3 rfl rfl rfl
                  case o13 =>
                    intro W hW;rintro _ rfl;rintro _ rfl;change wpList _ _ _ _ _ _
                    have hq:=(hW.cell (p:=⟨(adL.add (f * 6)).block,(adL.add (f * 6)).off + 5,none⟩) (by show (adL.add (f * 6)).block < _;rw [add_block];omega)).trans HS5r.out
                    go_wp2;exact j3 rfl rfl rfl
                  case o14 => intro W hW;rintro _ rfl;change wpList _ _ _ _ _ _;go_wp2;exact j3 rfl rfl rfl
                  case o15 => intro W hW;rintro _ rfl;change wpList _ _ _ _ _ _;go_wp2;exact j3 rfl rfl rfl
                  case o16 => intro W hW;rintro _ rfl;rintro _ rfl;rintro _ rfl;change wpList _ _ _ _ _ _;go_wp2;exact j3 rfl rfl rfl
                  case o17 =>
                    intro W hW;rintro _ rfl;rintro _ rfl;change wpList _ _ _ _ _ _
                    have hq:=(hW.cell (p:=ad4.add k) (by rw [add_block];omega)).trans HCt.out
                    go_wp2;exact j3 rfl rfl rfl
                  case o18 => intro W hW;rintro _ rfl;rintro _ rfl;rintro _ rfl;change wpList _ _ _ _ _ _;go_wp2;exact j3 rfl rfl rfl
                  case o19 =>
                    intro W hW;rintro _ rfl;rintro _ rfl;change wpList _ _ _ _ _ _
                    have hq:=(hW.cell (p:=adH.add t) (by rw [add_block];omega)).trans HC5.out
                    go_wp2;exact j3 rfl rfl rfl
                  case o20 => intro W hW;rintro _ rfl;change wpList _ _ _ _ _ _;go_wp2;exact j3 rfl rfl rfl
                  case o21 =>
                    intro W hW;rintro _ rfl;rintro _ rfl;rintro _ rfl;change wpList _ _ _ _ _ _
                    go_wp2_with fail
                    refine (jQ hv hhv (lk : Int) ⟨by omega,by omega⟩ fh HFh.out W).mono ?_
                    rintro e w2 ⟨rfl,rfl⟩
                    go_wp2
                    exact j3 rfl rfl rfl
                  case o22 => intro W hW;rintro _ rfl;rintro _ rfl;change wpList _ _ _ _ _ _;go_wp2;exact j3 rfl rfl rfl
                  case o23 => intro W hW;rintro _ rfl;rintro _ rfl;change wpList _ _ _ _ _ _;go_wp2;exact j3 rfl rfl rfl
                case hend =>
                  intro W hW;rintro _ rfl;rintro _ rfl;rintro _ rfl;rintro _ rfl;rintro _ rfl;rintro _ rfl;rintro _ rfl;rintro _ rfl;rintro _ rfl;rintro _ rfl;rintro _ rfl;rintro _ rfl;rintro _ rfl;rintro _ rfl;rintro _ rfl;rintro _ rfl;rintro _ rfl;rintro _ rfl;rintro _ rfl;rintro _ rfl;rintro _ rfl;rintro _ rfl;rintro _ rfl;rintro _ rfl
                  simp only [given,jI,List.set]
                  have HBo:=kp (HBr.out.trans (hW.mono HBr.out.size))
                  have HWo:=kp (HWr.out.trans (hW.mono HWr.out.size))
                  clear hW
                  cases fh with
                  | false =>
                    have HE : Kept (6 = r):=kp (by
                      rw [← HR.out]
                      refine (Ma.node_bad HPast.out HTm.out ?_).symm
                      unfold Ma.badTo
                      rw [Int.toNat_natCast,HHv.out,HBqe.out,Bool.not_eq_true']
                      cases e : S.within bq hv 32 with
                      | false => rfl
                      | true =>
                        have h1:=(S.within_iff _ _).1 e lk hlk HBqb.out
                        rw [HFhb.out] at h1;cases h1)
                    go_wp2
                    go_ret
                    exact ⟨by rw [← HE.out];rfl,HWo.out⟩
                  | true =>
                    have HThis : Kept (bq.testBit lk = true → hv.testBit lk = true):=kp (fun _ => HFhb.out)
                    go_wp2
                    go_roundw
                    case rel => exact ⟨lk + 1,by omega,by go_num,(fun j hj hb1 => by
                      by_cases e : j = lk
                      · subst e;exact HThis.out hb1
                      · exact HAll2.out j (by omega) hb1),HBo.out⟩
                    case measure => simp [intOf];omega
            · have hlkb : decide ((lk : Int) < (32 : Int)) = false:=by simp;omega
              have HOk : Kept (Ma.badTo bg p.s ls s n h (t : Int) = false):=kp (by
                unfold Ma.badTo
                rw [Int.toNat_natCast,HHv.out,HBqe.out,(S.within_iff _ _).2 fun j hj => HAll2.out j (by omega)];rfl)
              clear hlk hall2 hbr
              go_wp2
              go_roundw
              case rel => exact ⟨k + 1,by omega,by go_num,(fun y hy => by
                rw [List.take_add_one,HTo.out] at hy
                simp only [Option.toList_some,List.mem_append,List.mem_singleton] at hy
                rcases hy with hy | rfl
                · exact HAll.out y hy
                · exact HOk.out),HBr.out⟩
              case measure => simp [intOf];omega
        · have HE : Kept (0 = r):=kp (by
            rw [← HR.out]
            have h1:=HAll.out
            rw [List.take_of_length_le (by rw [HNl.out];omega)] at h1
            exact (Ma.node_fine HPast.out h1).symm)
          have hge : nl ≤ k:=by omega
          clear hlt
          go_wp2
          go_ret
          exact ⟨by rw [← HE.out];rfl,HWo0.out⟩
  have hk7 : (n.kind == 7) = false:=by simpa using h7
  obtain ⟨ex,hexe⟩ : ∃ ex : Nat,ex = 0:=⟨_,rfl⟩
  have hex : ex < 4294967296:=by omega
  have HX0:=kp hexe
  have HEx0 : Kept (Ma.exit_ ls n = 0):=kp (by unfold Ma.exit_;rw [if_neg h7])
  by_cases h9 : n.kind = 9
  · have hk9 : (n.kind == 9) = true:=by simpa using h9
    have hk5 : (n.kind == 5) = false:=by rw [h9];rfl
    obtain ⟨r9,hr9⟩ : ∃ r9,S.within h s.lx 32 = r9:=⟨_,rfl⟩
    have HR9:=kp hr9
    cases r9 with
    | false =>
      have HE : Kept (6 = r):=kp (by rw [← HR.out];exact (Ma.node_exit h9 hr9).symm)
      clear h7 h9 hr9 hexe
      go_wp2_with (first
        | ((with_reducible refine j4 rfl 24 (.tmp 0) rfl (pgC p) rfl ?_);intro g1 w1 hg1 hk1 hw1;have HW1:=kp hw1;have HK1:=kp hk1;have hs1:=hw1.size;obtain ⟨hc0,hc1,hc2,hc3⟩:=j8 hk1;rw [EP.out] at hc3
           have hcf:=(HW1.out.cell (p:=adP.add f) (by rw [add_block];omega)).trans HCf.out;have hn0:=(HW1.out.cell (p:=adF.add (i * 4)) (by rw [add_block];omega)).trans HN0.out;have hn1:=(HW1.out.cell (p:=⟨(adF.add (i * 4)).block,(adF.add (i * 4)).off + 1,none⟩) (by show (adF.add (i * 4)).block < _;rw [add_block];omega)).trans HN1.out;have hn2:=(HW1.out.cell (p:=⟨(adF.add (i * 4)).block,(adF.add (i * 4)).off + 2,none⟩) (by show (adF.add (i * 4)).block < _;rw [add_block];omega)).trans HN2.out;have hn3:=(HW1.out.cell (p:=⟨(adF.add (i * 4)).block,(adF.add (i * 4)).off + 3,none⟩) (by show (adF.add (i * 4)).block < _;rw [add_block];omega)).trans HN3.out
           clear hg1 hk1 hw1)
        | ((with_reducible show Sl 9);go_must (refine j7 rfl 66 rfl (ndC ⟨0,0,0,0⟩) lY ?_);intro gN w2 hgN hk2 hb2;have HGN:=kp hgN;have HK2:=kp hk2;have HW2:=kp (HW1.out.trans (hb2.mono hs1));have hs2:=HW2.out.size;have HKp:=kp (HK1.out.below hb2 HK1.out.lt);clear hgN hk2 hb2 hc0 hc1 hc2 hc3 hcf hn0 hn1 hn2 hn3)
        | ((with_reducible show Sn);go_must (refine j5 rfl 66 (.tmp 9) (.tmp 23) rfl gN (ndC n) rfl rfl _ _ HK2.out jD rfl (jK n) ?_);intro w3 hk3 hg3 hz3
           have HK3:=kp hk3;have HW3:=kp (HW2.out.grown hg3 hs2 (fun k e => by cases e;have:=HGN.out;omega));have hs3:=HW3.out.size
           have HK3p:=kp (HKp.out.grown hg3 (fun e => by cases e;have:=HGN.out;have:=HK1.out.lt;omega))
           obtain ⟨hm0,hm1,hm2,hm3⟩:=jB hk3;obtain ⟨hc0,hc1,hc2,hc3⟩:=j8 HK3p.out
           have hs4_:=(HW3.out.cell (p:=⟨(adL.add (f * 6)).block,(adL.add (f * 6)).off + 4,none⟩) (by show (adL.add (f * 6)).block < _;rw [add_block];omega)).trans HS4.out;have hs5_:=(HW3.out.cell (p:=⟨(adL.add (f * 6)).block,(adL.add (f * 6)).off + 5,none⟩) (by show (adL.add (f * 6)).block < _;rw [add_block];omega)).trans HS5.out;have hh_:=(HW3.out.cell (p:=adH.add i) (by rw [add_block];omega)).trans HHc.out
           clear hk3 hg3 hz3)
        | (go_at_call 25;go_must (refine (qQ h s.lx hh hlx _ HR9.out _).mono ?_);rintro e w9 ⟨rfl,rfl⟩))
      go_ret
      exact ⟨by rw [← HE.out];rfl,HW3.out⟩
    | true =>
      have HNl0 : Kept (nl = 0):=kp (by rw [← HNl.out];unfold Q.succ;rw [if_pos h9];rfl)
      have HPast : Kept (Ma.Past p.s ls s n h):=kp ⟨fun h1 => h7 h1.1,fun h1 => (by have h2:=h1.2;rw [hr9] at h2;cases h2),fun h1 => (by have h2:=h1.1;omega)⟩
      clear h7 h9 hr9 hexe
      go_wp2_with (first
        | ((with_reducible refine j4 rfl 24 (.tmp 0) rfl (pgC p) rfl ?_);intro g1 w1 hg1 hk1 hw1;have HW1:=kp hw1;have HK1:=kp hk1;have hs1:=hw1.size;obtain ⟨hc0,hc1,hc2,hc3⟩:=j8 hk1;rw [EP.out] at hc3
           have hcf:=(HW1.out.cell (p:=adP.add f) (by rw [add_block];omega)).trans HCf.out;have hn0:=(HW1.out.cell (p:=adF.add (i * 4)) (by rw [add_block];omega)).trans HN0.out;have hn1:=(HW1.out.cell (p:=⟨(adF.add (i * 4)).block,(adF.add (i * 4)).off + 1,none⟩) (by show (adF.add (i * 4)).block < _;rw [add_block];omega)).trans HN1.out;have hn2:=(HW1.out.cell (p:=⟨(adF.add (i * 4)).block,(adF.add (i * 4)).off + 2,none⟩) (by show (adF.add (i * 4)).block < _;rw [add_block];omega)).trans HN2.out;have hn3:=(HW1.out.cell (p:=⟨(adF.add (i * 4)).block,(adF.add (i * 4)).off + 3,none⟩) (by show (adF.add (i * 4)).block < _;rw [add_block];omega)).trans HN3.out
           clear hg1 hk1 hw1)
        | ((with_reducible show Sl 9);go_must (refine j7 rfl 66 rfl (ndC ⟨0,0,0,0⟩) lY ?_);intro gN w2 hgN hk2 hb2;have HGN:=kp hgN;have HK2:=kp hk2;have HW2:=kp (HW1.out.trans (hb2.mono hs1));have hs2:=HW2.out.size;have HKp:=kp (HK1.out.below hb2 HK1.out.lt);clear hgN hk2 hb2 hc0 hc1 hc2 hc3 hcf hn0 hn1 hn2 hn3)
        | ((with_reducible show Sn);go_must (refine j5 rfl 66 (.tmp 9) (.tmp 23) rfl gN (ndC n) rfl rfl _ _ HK2.out jD rfl (jK n) ?_);intro w3 hk3 hg3 hz3
           have HK3:=kp hk3;have HW3:=kp (HW2.out.grown hg3 hs2 (fun k e => by cases e;have:=HGN.out;omega));have hs3:=HW3.out.size
           have HK3p:=kp (HKp.out.grown hg3 (fun e => by cases e;have:=HGN.out;have:=HK1.out.lt;omega))
           obtain ⟨hm0,hm1,hm2,hm3⟩:=jB hk3;obtain ⟨hc0,hc1,hc2,hc3⟩:=j8 HK3p.out
           have hs4_:=(HW3.out.cell (p:=⟨(adL.add (f * 6)).block,(adL.add (f * 6)).off + 4,none⟩) (by show (adL.add (f * 6)).block < _;rw [add_block];omega)).trans HS4.out;have hs5_:=(HW3.out.cell (p:=⟨(adL.add (f * 6)).block,(adL.add (f * 6)).off + 5,none⟩) (by show (adL.add (f * 6)).block < _;rw [add_block];omega)).trans HS5.out;have hh_:=(HW3.out.cell (p:=adH.add i) (by rw [add_block];omega)).trans HHc.out
           clear hk3 hg3 hz3)
        | (go_at_call 25;go_must (refine (qQ h s.lx hh hlx _ HR9.out _).mono ?_);rintro e w9 ⟨rfl,rfl⟩)
        | ((with_reducible show Sl 82);go_must (refine j6 rfl 66 (.tmp 9) rfl gN rfl _ (ndC n) _ HK3.out Tryd.underlying66 rfl jD ?_))
        | (go_at_call 43;fail))
      have HWv:=kp HW3.out;have HKpv:=kp HK3p.out;have HKnv:=kp HK3.out
      refine (zF n _).mono ?_
      rintro e w5 ⟨v4,rfl,hown4,hb4⟩
      obtain ⟨A4,c4,rfl,hcl4,hcm4,hr4⟩:=hown4.readsN HNl.out
      have HR4:=kp hr4;have HW5:=kp (HWv.out.trans (hb4.mono HWv.out.size));have hs5:=HW5.out.size
      have HKp5:=kp (HKpv.out.below hb4 HKpv.out.lt);have HKn5:=kp (HKnv.out.below hb4 HKnv.out.lt)
      unfold maxLen at hcm4
      clear hown4 hr4 hb4 hm0 hm1 hm2 hm3 hc0 hc1 hc2 hc3 hs4_ hs5_ hh_
      go_wp2
      go_loopw [14] (fun v14 wr => ∃ k : Nat,k ≤ nl ∧ v14 = .int .i64 k ∧ (∀ to ∈ (Q.succ n).take k,Ma.badTo bg p.s ls s n h to = false) ∧ Below w5.heap.size w5 wr) (fun v14 _ => nl - (intOf v14).toNat)
      case atStart => exact ⟨0,by omega,rfl,fun to ht => by simp at ht,Below.refl _ _⟩
      case round =>
        obtain ⟨k,hk,rfl,hall,hbo⟩:=hrel
        have HAll:=kp hall;have HBo0:=kp hbo
        have HWo0:=kp (HW5.out.trans (hbo.mono hs5))
        clear hall hbo
        by_cases hlt : k < nl
        · exact absurd hlt (by rw [HNl0.out];omega)
        · have HE : Kept (0 = r):=kp (by
            rw [← HR.out]
            have h1:=HAll.out
            rw [List.take_of_length_le (by rw [HNl.out];omega)] at h1
            exact (Ma.node_fine HPast.out h1).symm)
          have hge : nl ≤ k:=by omega
          clear hlt
          go_wp2
          go_ret
          exact ⟨by rw [← HE.out];rfl,HWo0.out⟩
  have hk9 : (n.kind == 9) = false:=by simpa using h9
  by_cases h5 : n.kind = 5
  · have hk5 : (n.kind == 5) = true:=by simpa using h5
    obtain ⟨ka,hka,hkl⟩:=HFit.out (.inr h5)
    obtain ⟨_,x,e0,hb0,hx,hxok,hd3,hd4,hj5⟩:=HL.out.get16 hkl
    cases e0
    clear hj5 hd4
    have HCe:=kp hd3
    have hxe:=hxok.le
    have hx2 : ls.getD ka default = x:=by rw [List.getD_eq_getElem?_getD,hx];rfl
    obtain ⟨r5,hr5⟩ : ∃ r5,S.has x.le p.s = r5:=⟨_,rfl⟩
    have HR5:=kp hr5
    have hki : (ka : Int) < (p.len : Int):=by omega
    have HKa2:=kp hka
    cases r5 with
    | false =>
      have HE : Kept (7 = r):=kp (by rw [← HR.out];exact (Ma.node_spawn h5 (by rw [hka,Int.toNat_natCast,hx2];exact hr5)).symm)
      clear h5 h7 h9 hka hx hxok hx2 hr5 hd3 hexe
      go_wp2_with (first
        | ((with_reducible refine j4 rfl 24 (.tmp 0) rfl (pgC p) rfl ?_);intro g1 w1 hg1 hk1 hw1;have HW1:=kp hw1;have HK1:=kp hk1;have hs1:=hw1.size;obtain ⟨hc0,hc1,hc2,hc3⟩:=j8 hk1;rw [EP.out] at hc3
           have hcf:=(HW1.out.cell (p:=adP.add f) (by rw [add_block];omega)).trans HCf.out;have hn0:=(HW1.out.cell (p:=adF.add (i * 4)) (by rw [add_block];omega)).trans HN0.out;have hn1:=(HW1.out.cell (p:=⟨(adF.add (i * 4)).block,(adF.add (i * 4)).off + 1,none⟩) (by show (adF.add (i * 4)).block < _;rw [add_block];omega)).trans HN1.out;have hn2:=(HW1.out.cell (p:=⟨(adF.add (i * 4)).block,(adF.add (i * 4)).off + 2,none⟩) (by show (adF.add (i * 4)).block < _;rw [add_block];omega)).trans HN2.out;have hn3:=(HW1.out.cell (p:=⟨(adF.add (i * 4)).block,(adF.add (i * 4)).off + 3,none⟩) (by show (adF.add (i * 4)).block < _;rw [add_block];omega)).trans HN3.out
           clear hg1 hk1 hw1)
        | ((with_reducible show Sl 9);go_must (refine j7 rfl 66 rfl (ndC ⟨0,0,0,0⟩) lY ?_);intro gN w2 hgN hk2 hb2;have HGN:=kp hgN;have HK2:=kp hk2;have HW2:=kp (HW1.out.trans (hb2.mono hs1));have hs2:=HW2.out.size;have HKp:=kp (HK1.out.below hb2 HK1.out.lt);clear hgN hk2 hb2 hc0 hc1 hc2 hc3 hcf hn0 hn1 hn2 hn3)
        | ((with_reducible show Sn);go_must (refine j5 rfl 66 (.tmp 9) (.tmp 23) rfl gN (ndC n) rfl rfl _ _ HK2.out jD rfl (jK n) ?_);intro w3 hk3 hg3 hz3
           have HK3:=kp hk3;have HW3:=kp (HW2.out.grown hg3 hs2 (fun k e => by cases e;have:=HGN.out;omega));have hs3:=HW3.out.size
           have HK3p:=kp (HKp.out.grown hg3 (fun e => by cases e;have:=HGN.out;have:=HK1.out.lt;omega))
           obtain ⟨hm0,hm1,hm2,hm3⟩:=jB hk3;obtain ⟨hc0,hc1,hc2,hc3⟩:=j8 HK3p.out
           have hs4_:=(HW3.out.cell (p:=⟨(adL.add (f * 6)).block,(adL.add (f * 6)).off + 4,none⟩) (by show (adL.add (f * 6)).block < _;rw [add_block];omega)).trans HS4.out;have hs5_:=(HW3.out.cell (p:=⟨(adL.add (f * 6)).block,(adL.add (f * 6)).off + 5,none⟩) (by show (adL.add (f * 6)).block < _;rw [add_block];omega)).trans HS5.out;have hh_:=(HW3.out.cell (p:=adH.add i) (by rw [add_block];omega)).trans HHc.out;have hle_:=(HW3.out.cell (p:=⟨(adL.add (ka * 6)).block,(adL.add (ka * 6)).off + 3,none⟩) (by show (adL.add (ka * 6)).block < _;rw [add_block];omega)).trans HCe.out;rw [HKa2.out] at hm1
           clear hk3 hg3 hz3))
      refine wp_region_quiet_lit (by kernel_rfl) (by kernel_rfl) ?_
      iterate 9 (go_big_quiet_step (exact lO (jQ x.le hxe p.s HPs.out _ HR5.out _)))
      iterate 1 (go_big_quiet_step (fail))
      refine wpQuiet_nil ?_
      intro _ hw'
      obtain ⟨nq,hw''⟩:=hw'
      subst hw''
      obtain ⟨wq,hwq⟩ : ∃ q,w3.drewN nq = q:=⟨_,rfl⟩
      have HQ : Kept (Below w3.heap.size w3 wq):=kp (by rw [← hwq];exact below_drewN (Below.refl _ _) _)
      rw [hwq]
      have HWq:=kp (HW3.out.trans (HQ.out.mono hs3));have hsq:=HWq.out.size
      have HKpq:=kp (HK3p.out.below HQ.out HK3p.out.lt);have HKnq:=kp (HK3.out.below HQ.out HK3.out.lt)
      clear hwq hle_ hm0 hm1 hm2 hm3 hc0 hc1 hc2 hc3 hs4_ hs5_ hh_
      go_wp2
      go_ret
      exact ⟨by rw [← HE.out];rfl,HWq.out⟩
    | true =>
      have HPast : Kept (Ma.Past p.s ls s n h):=kp ⟨fun h1 => h7 h1.1,fun h1 => h9 h1.1,fun h1 => (by have h2:=h1.2;rw [hka,Int.toNat_natCast,hx2,hr5] at h2;cases h2)⟩
      obtain ⟨cs,hcs⟩ : ∃ cs,setL (MayDo p 5 5 ka) = cs:=⟨_,rfl⟩
      have HCs:=kp hcs
      obtain ⟨ncs,hncs⟩ : ∃ ncs,cs.length = ncs:=⟨_,rfl⟩
      have HNc:=kp hncs
      have hn32 : ncs ≤ 32:=by rw [← hncs,← hcs];exact setL_len _
      obtain ⟨gb,hgb⟩ : ∃ gb,decide (0 < ncs) = gb:=⟨_,rfl⟩
      have HBeh : Kept (Ma.behind n h 0 p.s gb = bq):=kp (by
        rw [← HBqe.out]
        unfold Ma.beh
        rw [HEx0.out,hka,XB HBg.out hkl h32 hcs,hncs,← hgb])
      have HGb:=kp hgb
      clear h5 h7 h9 hka hx hxok hx2 hr5 hd3 hexe hcs hncs
      go_wp2_with (first
        | ((with_reducible refine j4 rfl 24 (.tmp 0) rfl (pgC p) rfl ?_);intro g1 w1 hg1 hk1 hw1;have HW1:=kp hw1;have HK1:=kp hk1;have hs1:=hw1.size;obtain ⟨hc0,hc1,hc2,hc3⟩:=j8 hk1;rw [EP.out] at hc3
           have hcf:=(HW1.out.cell (p:=adP.add f) (by rw [add_block];omega)).trans HCf.out;have hn0:=(HW1.out.cell (p:=adF.add (i * 4)) (by rw [add_block];omega)).trans HN0.out;have hn1:=(HW1.out.cell (p:=⟨(adF.add (i * 4)).block,(adF.add (i * 4)).off + 1,none⟩) (by show (adF.add (i * 4)).block < _;rw [add_block];omega)).trans HN1.out;have hn2:=(HW1.out.cell (p:=⟨(adF.add (i * 4)).block,(adF.add (i * 4)).off + 2,none⟩) (by show (adF.add (i * 4)).block < _;rw [add_block];omega)).trans HN2.out;have hn3:=(HW1.out.cell (p:=⟨(adF.add (i * 4)).block,(adF.add (i * 4)).off + 3,none⟩) (by show (adF.add (i * 4)).block < _;rw [add_block];omega)).trans HN3.out
           clear hg1 hk1 hw1)
        | ((with_reducible show Sl 9);go_must (refine j7 rfl 66 rfl (ndC ⟨0,0,0,0⟩) lY ?_);intro gN w2 hgN hk2 hb2;have HGN:=kp hgN;have HK2:=kp hk2;have HW2:=kp (HW1.out.trans (hb2.mono hs1));have hs2:=HW2.out.size;have HKp:=kp (HK1.out.below hb2 HK1.out.lt);clear hgN hk2 hb2 hc0 hc1 hc2 hc3 hcf hn0 hn1 hn2 hn3)
        | ((with_reducible show Sn);go_must (refine j5 rfl 66 (.tmp 9) (.tmp 23) rfl gN (ndC n) rfl rfl _ _ HK2.out jD rfl (jK n) ?_);intro w3 hk3 hg3 hz3
           have HK3:=kp hk3;have HW3:=kp (HW2.out.grown hg3 hs2 (fun k e => by cases e;have:=HGN.out;omega));have hs3:=HW3.out.size
           have HK3p:=kp (HKp.out.grown hg3 (fun e => by cases e;have:=HGN.out;have:=HK1.out.lt;omega))
           obtain ⟨hm0,hm1,hm2,hm3⟩:=jB hk3;obtain ⟨hc0,hc1,hc2,hc3⟩:=j8 HK3p.out
           have hs4_:=(HW3.out.cell (p:=⟨(adL.add (f * 6)).block,(adL.add (f * 6)).off + 4,none⟩) (by show (adL.add (f * 6)).block < _;rw [add_block];omega)).trans HS4.out;have hs5_:=(HW3.out.cell (p:=⟨(adL.add (f * 6)).block,(adL.add (f * 6)).off + 5,none⟩) (by show (adL.add (f * 6)).block < _;rw [add_block];omega)).trans HS5.out;have hh_:=(HW3.out.cell (p:=adH.add i) (by rw [add_block];omega)).trans HHc.out;have hle_:=(HW3.out.cell (p:=⟨(adL.add (ka * 6)).block,(adL.add (ka * 6)).off + 3,none⟩) (by show (adL.add (ka * 6)).block < _;rw [add_block];omega)).trans HCe.out;rw [HKa2.out] at hm1
           clear hk3 hg3 hz3))
      refine wp_region_quiet_lit (by kernel_rfl) (by kernel_rfl) ?_
      iterate 9 (go_big_quiet_step (exact lO (jQ x.le hxe p.s HPs.out _ HR5.out _)))
      iterate 1 (go_big_quiet_step (fail))
      refine wpQuiet_nil ?_
      intro _ hw'
      obtain ⟨nq,hw''⟩:=hw'
      subst hw''
      obtain ⟨wq,hwq⟩ : ∃ q,w3.drewN nq = q:=⟨_,rfl⟩
      have HQ : Kept (Below w3.heap.size w3 wq):=kp (by rw [← hwq];exact below_drewN (Below.refl _ _) _)
      rw [hwq]
      have HWq:=kp (HW3.out.trans (HQ.out.mono hs3));have hsq:=HWq.out.size
      have HKpq:=kp (HK3p.out.below HQ.out HK3p.out.lt);have HKnq:=kp (HK3.out.below HQ.out HK3.out.lt)
      clear hwq hle_ hm0 hm1 hm2 hm3 hc0 hc1 hc2 hc3 hs4_ hs5_ hh_
      obtain ⟨hm0,hm1,hm2,hm3⟩:=jB HKnq.out
      rw [HKa2.out] at hm1
      go_wp2_with (first
        | ((with_reducible show Sl 76);go_must (refine j6 rfl 24 (.tmp 4) rfl g1 rfl _ (pgC p) _ HKpq.out Tryd.underlying24 rfl jL ?_))
        | (go_at_call 42;fail))
      refine (QN B p wq (HP.out.below (HWq.out.mono hB)) (Nat.le_trans hB hsq) HS.out h32 ka hkl 5 5 cs HCs.out).mono ?_
      rintro e w4 ⟨v9,rfl,hown9,hb9⟩
      obtain ⟨A9,c9,rfl,hcl9,hcm9,hr9⟩:=hown9.readsN HNc.out
      have HWv:=kp (HWq.out.trans (hb9.mono hsq));have HKpv:=kp (HKpq.out.below hb9 HKpq.out.lt);have HKnv:=kp (HKnq.out.below hb9 HKnq.out.lt)
      unfold maxLen at hcm9
      clear hown9 hr9 hb9 hm0 hm1 hm2 hm3
      go_wp2_with (first
        | ((with_reducible show Sl 82);go_must (refine j6 rfl 66 (.tmp 9) rfl gN rfl _ (ndC n) _ HKnv.out Tryd.underlying66 rfl jD ?_))
        | (go_at_call 43;fail))
      clear hgb
      refine (zF n _).mono ?_
      rintro e w5 ⟨v4,rfl,hown4,hb4⟩
      obtain ⟨A4,c4,rfl,hcl4,hcm4,hr4⟩:=hown4.readsN HNl.out
      have HR4:=kp hr4;have HW5:=kp (HWv.out.trans (hb4.mono HWv.out.size));have hs5:=HW5.out.size
      have HKp5:=kp (HKpv.out.below hb4 HKpv.out.lt);have HKn5:=kp (HKnv.out.below hb4 HKnv.out.lt)
      unfold maxLen at hcm4
      clear hown4 hr4 hb4
      go_wp2
      go_loopw [14] (fun v14 wr => ∃ k : Nat,k ≤ nl ∧ v14 = .int .i64 k ∧ (∀ to ∈ (Q.succ n).take k,Ma.badTo bg p.s ls s n h to = false) ∧ Below w5.heap.size w5 wr) (fun v14 _ => nl - (intOf v14).toNat)
      case atStart => exact ⟨0,by omega,rfl,fun to ht => by simp at ht,Below.refl _ _⟩
      case round =>
        obtain ⟨k,hk,rfl,hall,hbo⟩:=hrel
        have HAll:=kp hall;have HBo0:=kp hbo
        have HWo0:=kp (HW5.out.trans (hbo.mono hs5))
        clear hall hbo
        by_cases hlt : k < nl
        · obtain ⟨ad4,to,rfl,hb4,hto,hj0⟩:=HR4.out.get hlt
          clear hj0
          have HTo:=kp hto
          have htm:=List.mem_of_getElem? hto
          obtain ⟨t,ht,htl⟩:=HSf.out to htm
          subst ht
          have HTm:=kp htm
          obtain ⟨ad5,e5,hb5,hj0,hhv,hc5⟩:=HSok.out.live.get htl
          clear hj0
          obtain ⟨hv,hhve⟩ : ∃ hv,s.live.z.getD t 0 = hv:=⟨_,rfl⟩
          rw [hhve] at hhv hc5
          obtain rfl : adH = ad5:=by rw [EH.out] at e5;exact Option.some.inj e5
          have HC50:=kp hc5;have HHv : Kept (s.live.z.getD t 0 = hv):=kp hhve
          have hti : (t : Int) < (s.live.len : Int):=by omega
          have hki : (k : Int) < (nl : Int):=by omega
          clear hto htm hhve hc5 e5
          go_wp2
          go_loopw [15] (fun v15 wr => ∃ lk : Nat,lk ≤ 32 ∧ v15 = .int .i64 lk ∧ (∀ j,j < lk → bq.testBit j = true → hv.testBit j = true) ∧ Below w5.heap.size w5 wr) (fun v15 _ => 32 - (intOf v15).toNat)
          case atStart => exact ⟨0,by omega,rfl,fun j hj => by omega,HBo0.out⟩
          case round =>
            clear HBo0 HWo0
            obtain ⟨lk,hlk32,rfl,hall2,hbr⟩:=hrel
            have HAll2:=kp hall2;have HBr:=kp hbr
            have HWr:=kp (HW5.out.trans (hbr.mono hs5))
            have hsr:=hbr.size;have hsWr:=HWr.out.size
            have HKpr:=kp (HKp5.out.below hbr HKp5.out.lt);have HKnr:=kp (HKn5.out.below hbr HKn5.out.lt)
            by_cases hlk : lk < 32
            · have HS5r:=kp ((HWr.out.cell (p:=⟨(adL.add (f * 6)).block,(adL.add (f * 6)).off + 5,none⟩) (by show (adL.add (f * 6)).block < _;rw [add_block];omega)).trans HS5.out)
              have HC5:=kp ((HWr.out.cell (p:=adH.add t) (by rw [add_block];omega)).trans HC50.out)
              have HCt : Kept (wr.cell? (ad4.add k) = some (.int .i64 (t : Int))):=kp (by
                obtain ⟨ad',y,e',_,hy',hc'⟩:=(HR4.out.below hbr).get hlt
                cases e'
                rw [HTo.out] at hy';cases hy'
                exact hc')
              have had4 : ad4.block < wr.heap.size:=by omega
              have hlkb : decide ((lk : Int) < (32 : Int)) = true:=by simp;omega
              obtain ⟨fh,hfh⟩ : ∃ q,hv.testBit lk = q:=⟨_,rfl⟩
              have HFhb:=kp hfh
              have HFh : Kept (S.has hv (lk : Int) = fh):=kp (by rw [S.has_in _ _ (by omega)];exact hfh)
              obtain ⟨bb,hbb⟩ : ∃ q,bq.testBit lk = q:=⟨_,rfl⟩
              have HBqb:=kp hbb
              have HBb : Kept ((Ma.behind n h 0 p.s gb).testBit lk = bb):=kp (by rw [HBeh.out];exact hbb)
              clear hall2 hbr hfh hbb
              cases bb with
              | false =>
                go_wp2
                apply jR (.is (ndA n) :: .is _ :: .is _ :: .is _ :: .is (.int .i64 p.s) :: .is _ :: .is _ :: .is (.bool false) :: .is _ :: .is undef :: .is undef :: .is undef :: .is undef :: .is undef :: .is undef :: .is undef :: .is undef :: .is undef :: .is undef :: .is undef :: .is undef :: .is undef :: .is undef :: .is (.bool false) :: [])
                  [[],[],[],[],[(3,97)],[],[],[(0,94),(1,95),(2,96),(4,98),(5,99),(6,100)],[(7,101)],[(8,102)],[(8,102)],[(9,103),(10,104),(8,102)],[(11,105),(8,102)],[(12,106),(8,102)],[(8,102)],[(8,102)],[(14,108),(15,109),(8,102)],[(16,110),(8,102)],[(13,107),(17,111),(8,102)],[(18,112),(8,102)],[(8,102)],[(19,113),(20,114),(8,102)],[(21,115),(8,102)],[(8,102),(22,116)]]
                  [(0,94),(1,95),(2,96),(3,97),(4,98),(5,99),(6,100),(7,101),(8,102),(9,103),(10,104),(11,105),(12,106),(13,107),(14,108),(15,109),(16,110),(17,111),(18,112),(19,113),(20,114),(21,115),(22,116),(23,117)] (by kernel_rfl) (by kernel_rfl)
                case hob =>
                  refine ⟨?o0,?o1,?o2,?o3,?o4,?o5,?o6,?o7,?o8,?o9,?o10,?o11,?o12,?o13,?o14,?o15,?o16,?o17,?o18,?o19,?o20,?o21,?o22,?o23,trivial⟩
                  case o0 =>
                    intro W hW;change wpList _ _ _ _ _ _
                    go_must (refine jN rfl 66 (.tmp 9) rfl gN rfl _ (ndC n) _ (HKnr.out.below hW HKnr.out.lt) Tryd.underlying66 rfl jD ?_)
                    go_wp2;exact j3 rfl rfl rfl
                  case o1 => intro W hW;change wpList _ _ _ _ _ _;go_wp2;exact j3 rfl rfl rfl
                  case o2 => intro W hW;change wpList _ _ _ _ _ _;go_wp2;exact j3 rfl rfl rfl
                  case o3 => intro W hW;change wpList _ _ _ _ _ _;go_wp2;exact j3 rfl rfl rfl
                  case o4 =>
                    intro W hW;rintro _ rfl;change wpList _ _ _ _ _ _
                    have hq:=(HKpr.out.below hW HKpr.out.lt).cell 2
                    simp only [pgC,List.getElem?_cons_zero,List.getElem?_cons_succ] at hq
                    go_wp2;exact j3 rfl rfl rfl
                  case o5 => intro W hW;change wpList _ _ _ _ _ _;go_wp2;exact j3 rfl rfl rfl
                  case o6 => intro W hW;change wpList _ _ _ _ _ _;go_wp2;exact j3 rfl rfl rfl
                  case o7 =>
                    intro W hW;rintro _ rfl;rintro _ rfl;rintro _ rfl;rintro _ rfl;rintro _ rfl;rintro _ rfl;change wpList _ _ _ _ _ _
                    go_wp2_with fail
                    refine (lI n HNok.out h 0 hh (by omega) p.s gb lk hlk false HBb.out W).mono ?_
                    rintro e w2 ⟨rfl,hb2⟩
                    have HBq:=kp hb2;clear hb2
                    go_wp2
                    exact jE rfl rfl rfl HBq.out rfl
                  case o8 => intro W hW;rintro _ rfl;change wpList _ _ _ _ _ _;go_wp2;exact j3 rfl rfl rfl
                  case o9 =>
                    intro W hW;rintro _ rfl;change wpList _ _ _ _ _ _
                    exact jC _ rfl rfl rfl rfl
                  case o10 =>
                    intro W hW;rintro _ rfl;change wpList _ _ _ _ _ _
                    exact jC _ rfl rfl rfl rfl
                  case o11 =>
                    intro W hW;rintro _ rfl;rintro _ rfl;rintro _ rfl;change wpList _ _ _ _ _ _
                    exact jC _ rfl rfl rfl rfl
                  case o12 =>
                    intro W hW;rintro _ rfl;rintro _ rfl;change wpList _ _ _ _ _ _
                    exact jC _ rfl rfl rfl rfl
                  case o13 =>
                    intro W hW;rintro _ rfl;rintro _ rfl;change wpList _ _ _ _ _ _
                    exact jC _ rfl rfl rfl rfl
                  case o14 =>
                    intro W hW;rintro _ rfl;change wpList _ _ _ _ _ _
                    exact jC _ rfl rfl rfl rfl
                  case o15 =>
                    intro W hW;rintro _ rfl;change wpList _ _ _ _ _ _
                    exact jC _ rfl rfl rfl rfl
                  case o16 =>
                    intro W hW;rintro _ rfl;rintro _ rfl;rintro _ rfl;change wpList _ _ _ _ _ _
                    exact jC _ rfl rfl rfl rfl
                  case o17 =>
                    intro W hW;rintro _ rfl;rintro _ rfl;change wpList _ _ _ _ _ _
                    exact jC _ rfl rfl rfl rfl
                  case o18 =>
                    intro W hW;rintro _ rfl;rintro _ rfl;rintro _ rfl;change wpList _ _ _ _ _ _
                    exact jC _ rfl rfl rfl rfl
                  case o19 =>
                    intro W hW;rintro _ rfl;rintro _ rfl;change wpList _ _ _ _ _ _
                    exact jC _ rfl rfl rfl rfl
                  case o20 =>
                    intro W hW;rintro _ rfl;change wpList _ _ _ _ _ _
                    exact jC _ rfl rfl rfl rfl
                  case o21 =>
                    intro W hW;rintro _ rfl;rintro _ rfl;rintro _ rfl;change wpList _ _ _ _ _ _
                    exact jC _ rfl rfl rfl rfl
                  case o22 =>
                    intro W hW;rintro _ rfl;rintro _ rfl;change wpList _ _ _ _ _ _
                    exact jC _ rfl rfl rfl rfl
                  case o23 => intro W hW;rintro _ rfl;rintro _ rfl;change wpList _ _ _ _ _ _;go_wp2;exact j3 rfl rfl rfl
                case hend =>
                  intro W hW;rintro _ rfl;rintro _ rfl;rintro _ rfl;rintro _ rfl;rintro _ rfl;rintro _ rfl;rintro _ rfl;rintro _ rfl;rintro _ rfl;rintro _ rfl;rintro _ rfl;rintro _ rfl;rintro _ rfl;rintro _ rfl;rintro _ rfl;rintro _ rfl;rintro _ rfl;rintro _ rfl;rintro _ rfl;rintro _ rfl;rintro _ rfl;rintro _ rfl;rintro _ rfl;rintro _ rfl
                  simp only [given,jI,List.set]
                  have HBo:=kp (HBr.out.trans (hW.mono HBr.out.size))
                  have HWo:=kp (HWr.out.trans (hW.mono HWr.out.size))
                  clear hW
                  have HThis : Kept (bq.testBit lk = true → hv.testBit lk = true):=kp (fun e => by rw [HBqb.out] at e;cases e)
                  go_wp2
                  go_roundw
                  case rel => exact ⟨lk + 1,by omega,by go_num,(fun j hj hb1 => by
                    by_cases e : j = lk
                    · subst e;exact HThis.out hb1
                    · exact HAll2.out j (by omega) hb1),HBo.out⟩
                  case measure => simp [intOf];omega
              | true =>
                go_wp2
                apply jR (.is (ndA n) :: .is _ :: .is _ :: .is _ :: .is (.int .i64 p.s) :: .is _ :: .is _ :: .is (.bool true) :: .is _ :: .is _ :: .is _ :: .is _ :: .is _ :: .is (.slice (some adH) s.live.len s.live.cap) :: .is _ :: .is _ :: .is _ :: .is (.int .i64 (t : Int)) :: .is _ :: .is (.int .u32 (hv : Int)) :: .is _ :: .is (.bool fh) :: .is (.bool (!fh)) :: .is (.bool (!fh)) :: [])
                  [[],[],[],[],[(3,97)],[],[],[(0,94),(1,95),(2,96),(4,98),(5,99),(6,100)],[(7,101)],[(8,102)],[(8,102)],[(9,103),(10,104),(8,102)],[(11,105),(8,102)],[(12,106),(8,102)],[(8,102)],[(8,102)],[(14,108),(15,109),(8,102)],[(16,110),(8,102)],[(13,107),(17,111),(8,102)],[(18,112),(8,102)],[(8,102)],[(19,113),(20,114),(8,102)],[(21,115),(8,102)],[(8,102),(22,116)]]
                  [(0,94),(1,95),(2,96),(3,97),(4,98),(5,99),(6,100),(7,101),(8,102),(9,103),(10,104),(11,105),(12,106),(13,107),(14,108),(15,109),(16,110),(17,111),(18,112),(19,113),(20,114),(21,115),(22,116),(23,117)] (by kernel_rfl) (by kernel_rfl)
                case hob =>
                  refine ⟨?o0,?o1,?o2,?o3,?o4,?o5,?o6,?o7,?o8,?o9,?o10,?o11,?o12,?o13,?o14,?o15,?o16,?o17,?o18,?o19,?o20,?o21,?o22,?o23,trivial⟩
                  case o0 =>
                    intro W hW;change wpList _ _ _ _ _ _
                    go_must (refine jN rfl 66 (.tmp 9) rfl gN rfl _ (ndC n) _ (HKnr.out.below hW HKnr.out.lt) Tryd.underlying66 rfl jD ?_)
                    go_wp2;exact j3 rfl rfl rfl
                  case o1 => intro W hW;change wpList _ _ _ _ _ _;go_wp2;exact j3 rfl rfl rfl
                  case o2 => intro W hW;change wpList _ _ _ _ _ _;go_wp2;exact j3 rfl rfl rfl
                  case o3 => intro W hW;change wpList _ _ _ _ _ _;go_wp2;exact j3 rfl rfl rfl
                  case o4 =>
                    intro W hW;rintro _ rfl;change wpList _ _ _ _ _ _
                    have hq:=(HKpr.out.below hW HKpr.out.lt).cell 2
                    simp only [pgC,List.getElem?_cons_zero,List.getElem?_cons_succ] at hq
                    go_wp2;exact j3 rfl rfl rfl
                  case o5 => intro W hW;change wpList _ _ _ _ _ _;go_wp2;exact j3 rfl rfl rfl
                  case o6 => intro W hW;change wpList _ _ _ _ _ _;go_wp2;exact j3 rfl rfl rfl
                  case o7 =>
                    intro W hW;rintro _ rfl;rintro _ rfl;rintro _ rfl;rintro _ rfl;rintro _ rfl;rintro _ rfl;change wpList _ _ _ _ _ _
                    go_wp2_with fail
                    refine (lI n HNok.out h 0 hh (by omega) p.s gb lk hlk true HBb.out W).mono ?_
                    rintro e w2 ⟨rfl,hb2⟩
                    have HBq:=kp hb2;clear hb2
                    go_wp2
                    exact jE rfl rfl rfl HBq.out rfl
                  case o8 => intro W hW;rintro _ rfl;change wpList _ _ _ _ _ _;go_wp2;exact j3 rfl rfl rfl
                  case o9 => intro W hW;rintro _ rfl;change wpList _ _ _ _ _ _;go_wp2;exact j3 rfl rfl rfl
                  case o10 => intro W hW;rintro _ rfl;change wpList _ _ _ _ _ _;go_wp2;exact j3 rfl rfl rfl
                  case o11 => intro W hW;rintro _ rfl;rintro _ rfl;rintro _ rfl;change wpList _ _ _ _ _ _;go_wp2;exact j3 rfl rfl rfl
                  case o12 => intro W hW;rintro _ rfl;rintro _ rfl;change wpList _ _ _ _ _ _;go_wp2;exact j3 rfl rfl rfl
                  case o13 =>
                    intro W hW;rintro _ rfl;rintro _ rfl;change wpList _ _ _ _ _ _
                    have hq:=(hW.cell (p:=⟨(adL.add (f * 6)).block,(adL.add (f * 6)).off + 5,none⟩) (by show (adL.add (f * 6)).block < _;rw [add_block];omega)).trans HS5r.out
                    go_wp2;exact j3 rfl rfl rfl
                  case o14 => intro W hW;rintro _ rfl;change wpList _ _ _ _ _ _;go_wp2;exact j3 rfl rfl rfl
                  case o15 => intro W hW;rintro _ rfl;change wpList _ _ _ _ _ _;go_wp2;exact j3 rfl rfl rfl
                  case o16 => intro W hW;rintro _ rfl;rintro _ rfl;rintro _ rfl;change wpList _ _ _ _ _ _;go_wp2;exact j3 rfl rfl rfl
                  case o17 =>
                    intro W hW;rintro _ rfl;rintro _ rfl;change wpList _ _ _ _ _ _
                    have hq:=(hW.cell (p:=ad4.add k) (by rw [add_block];omega)).trans HCt.out
                    go_wp2;exact j3 rfl rfl rfl
                  case o18 => intro W hW;rintro _ rfl;rintro _ rfl;rintro _ rfl;change wpList _ _ _ _ _ _;go_wp2;exact j3 rfl rfl rfl
                  case o19 =>
                    intro W hW;rintro _ rfl;rintro _ rfl;change wpList _ _ _ _ _ _
                    have hq:=(hW.cell (p:=adH.add t) (by rw [add_block];omega)).trans HC5.out
                    go_wp2;exact j3 rfl rfl rfl
                  case o20 => intro W hW;rintro _ rfl;change wpList _ _ _ _ _ _;go_wp2;exact j3 rfl rfl rfl
                  case o21 =>
                    intro W hW;rintro _ rfl;rintro _ rfl;rintro _ rfl;change wpList _ _ _ _ _ _
                    go_wp2_with fail
                    refine (jQ hv hhv (lk : Int) ⟨by omega,by omega⟩ fh HFh.out W).mono ?_
                    rintro e w2 ⟨rfl,rfl⟩
                    go_wp2
                    exact j3 rfl rfl rfl
                  case o22 => intro W hW;rintro _ rfl;rintro _ rfl;change wpList _ _ _ _ _ _;go_wp2;exact j3 rfl rfl rfl
                  case o23 => intro W hW;rintro _ rfl;rintro _ rfl;change wpList _ _ _ _ _ _;go_wp2;exact j3 rfl rfl rfl
                case hend =>
                  intro W hW;rintro _ rfl;rintro _ rfl;rintro _ rfl;rintro _ rfl;rintro _ rfl;rintro _ rfl;rintro _ rfl;rintro _ rfl;rintro _ rfl;rintro _ rfl;rintro _ rfl;rintro _ rfl;rintro _ rfl;rintro _ rfl;rintro _ rfl;rintro _ rfl;rintro _ rfl;rintro _ rfl;rintro _ rfl;rintro _ rfl;rintro _ rfl;rintro _ rfl;rintro _ rfl;rintro _ rfl
                  simp only [given,jI,List.set]
                  have HBo:=kp (HBr.out.trans (hW.mono HBr.out.size))
                  have HWo:=kp (HWr.out.trans (hW.mono HWr.out.size))
                  clear hW
                  cases fh with
                  | false =>
                    have HE : Kept (6 = r):=kp (by
                      rw [← HR.out]
                      refine (Ma.node_bad HPast.out HTm.out ?_).symm
                      unfold Ma.badTo
                      rw [Int.toNat_natCast,HHv.out,HBqe.out,Bool.not_eq_true']
                      cases e : S.within bq hv 32 with
                      | false => rfl
                      | true =>
                        have h1:=(S.within_iff _ _).1 e lk hlk HBqb.out
                        rw [HFhb.out] at h1;cases h1)
                    go_wp2
                    go_ret
                    exact ⟨by rw [← HE.out];rfl,HWo.out⟩
                  | true =>
                    have HThis : Kept (bq.testBit lk = true → hv.testBit lk = true):=kp (fun _ => HFhb.out)
                    go_wp2
                    go_roundw
                    case rel => exact ⟨lk + 1,by omega,by go_num,(fun j hj hb1 => by
                      by_cases e : j = lk
                      · subst e;exact HThis.out hb1
                      · exact HAll2.out j (by omega) hb1),HBo.out⟩
                    case measure => simp [intOf];omega
            · have hlkb : decide ((lk : Int) < (32 : Int)) = false:=by simp;omega
              have HOk : Kept (Ma.badTo bg p.s ls s n h (t : Int) = false):=kp (by
                unfold Ma.badTo
                rw [Int.toNat_natCast,HHv.out,HBqe.out,(S.within_iff _ _).2 fun j hj => HAll2.out j (by omega)];rfl)
              clear hlk hall2 hbr
              go_wp2
              go_roundw
              case rel => exact ⟨k + 1,by omega,by go_num,(fun y hy => by
                rw [List.take_add_one,HTo.out] at hy
                simp only [Option.toList_some,List.mem_append,List.mem_singleton] at hy
                rcases hy with hy | rfl
                · exact HAll.out y hy
                · exact HOk.out),HBr.out⟩
              case measure => simp [intOf];omega
        · have HE : Kept (0 = r):=kp (by
            rw [← HR.out]
            have h1:=HAll.out
            rw [List.take_of_length_le (by rw [HNl.out];omega)] at h1
            exact (Ma.node_fine HPast.out h1).symm)
          have hge : nl ≤ k:=by omega
          clear hlt
          go_wp2
          go_ret
          exact ⟨by rw [← HE.out];rfl,HWo0.out⟩
  · have hk5 : (n.kind == 5) = false:=by simpa using h5
    have HPast : Kept (Ma.Past p.s ls s n h):=kp ⟨fun h1 => h7 h1.1,fun h1 => h9 h1.1,fun h1 => h5 h1.1⟩
    have HBeh : Kept (Ma.behind n h 0 p.s false = bq):=kp (by
      rw [← HBqe.out]
      unfold Ma.beh
      rw [HEx0.out]
      unfold Ma.behind
      rw [if_neg h5,if_neg h5])
    clear h5 h7 h9 hexe
    go_wp2_with (first
      | ((with_reducible refine j4 rfl 24 (.tmp 0) rfl (pgC p) rfl ?_);intro g1 w1 hg1 hk1 hw1;have HW1:=kp hw1;have HK1:=kp hk1;have hs1:=hw1.size;obtain ⟨hc0,hc1,hc2,hc3⟩:=j8 hk1;rw [EP.out] at hc3
         have hcf:=(HW1.out.cell (p:=adP.add f) (by rw [add_block];omega)).trans HCf.out;have hn0:=(HW1.out.cell (p:=adF.add (i * 4)) (by rw [add_block];omega)).trans HN0.out;have hn1:=(HW1.out.cell (p:=⟨(adF.add (i * 4)).block,(adF.add (i * 4)).off + 1,none⟩) (by show (adF.add (i * 4)).block < _;rw [add_block];omega)).trans HN1.out;have hn2:=(HW1.out.cell (p:=⟨(adF.add (i * 4)).block,(adF.add (i * 4)).off + 2,none⟩) (by show (adF.add (i * 4)).block < _;rw [add_block];omega)).trans HN2.out;have hn3:=(HW1.out.cell (p:=⟨(adF.add (i * 4)).block,(adF.add (i * 4)).off + 3,none⟩) (by show (adF.add (i * 4)).block < _;rw [add_block];omega)).trans HN3.out
         clear hg1 hk1 hw1)
      | ((with_reducible show Sl 9);go_must (refine j7 rfl 66 rfl (ndC ⟨0,0,0,0⟩) lY ?_);intro gN w2 hgN hk2 hb2;have HGN:=kp hgN;have HK2:=kp hk2;have HW2:=kp (HW1.out.trans (hb2.mono hs1));have hs2:=HW2.out.size;have HKp:=kp (HK1.out.below hb2 HK1.out.lt);clear hgN hk2 hb2 hc0 hc1 hc2 hc3 hcf hn0 hn1 hn2 hn3)
      | ((with_reducible show Sn);go_must (refine j5 rfl 66 (.tmp 9) (.tmp 23) rfl gN (ndC n) rfl rfl _ _ HK2.out jD rfl (jK n) ?_);intro w3 hk3 hg3 hz3
         have HK3:=kp hk3;have HW3:=kp (HW2.out.grown hg3 hs2 (fun k e => by cases e;have:=HGN.out;omega));have hs3:=HW3.out.size
         have HK3p:=kp (HKp.out.grown hg3 (fun e => by cases e;have:=HGN.out;have:=HK1.out.lt;omega))
         obtain ⟨hm0,hm1,hm2,hm3⟩:=jB hk3;obtain ⟨hc0,hc1,hc2,hc3⟩:=j8 HK3p.out
         have hs4_:=(HW3.out.cell (p:=⟨(adL.add (f * 6)).block,(adL.add (f * 6)).off + 4,none⟩) (by show (adL.add (f * 6)).block < _;rw [add_block];omega)).trans HS4.out;have hs5_:=(HW3.out.cell (p:=⟨(adL.add (f * 6)).block,(adL.add (f * 6)).off + 5,none⟩) (by show (adL.add (f * 6)).block < _;rw [add_block];omega)).trans HS5.out;have hh_:=(HW3.out.cell (p:=adH.add i) (by rw [add_block];omega)).trans HHc.out
         clear hk3 hg3 hz3)
      | ((with_reducible show Sl 82);go_must (refine j6 rfl 66 (.tmp 9) rfl gN rfl _ (ndC n) _ HK3.out Tryd.underlying66 rfl jD ?_))
      | (go_at_call 43;fail))
    have HWv:=kp HW3.out;have HKpv:=kp HK3p.out;have HKnv:=kp HK3.out
    refine (zF n _).mono ?_
    rintro e w5 ⟨v4,rfl,hown4,hb4⟩
    obtain ⟨A4,c4,rfl,hcl4,hcm4,hr4⟩:=hown4.readsN HNl.out
    have HR4:=kp hr4;have HW5:=kp (HWv.out.trans (hb4.mono HWv.out.size));have hs5:=HW5.out.size
    have HKp5:=kp (HKpv.out.below hb4 HKpv.out.lt);have HKn5:=kp (HKnv.out.below hb4 HKnv.out.lt)
    unfold maxLen at hcm4
    clear hown4 hr4 hb4 hm0 hm1 hm2 hm3 hc0 hc1 hc2 hc3 hs4_ hs5_ hh_
    go_wp2
    go_loopw [14] (fun v14 wr => ∃ k : Nat,k ≤ nl ∧ v14 = .int .i64 k ∧ (∀ to ∈ (Q.succ n).take k,Ma.badTo bg p.s ls s n h to = false) ∧ Below w5.heap.size w5 wr) (fun v14 _ => nl - (intOf v14).toNat)
    case atStart => exact ⟨0,by omega,rfl,fun to ht => by simp at ht,Below.refl _ _⟩
    case round =>
      obtain ⟨k,hk,rfl,hall,hbo⟩:=hrel
      have HAll:=kp hall;have HBo0:=kp hbo
      have HWo0:=kp (HW5.out.trans (hbo.mono hs5))
      clear hall hbo
      by_cases hlt : k < nl
      · obtain ⟨ad4,to,rfl,hb4,hto,hj0⟩:=HR4.out.get hlt
        clear hj0
        have HTo:=kp hto
        have htm:=List.mem_of_getElem? hto
        obtain ⟨t,ht,htl⟩:=HSf.out to htm
        subst ht
        have HTm:=kp htm
        obtain ⟨ad5,e5,hb5,hj0,hhv,hc5⟩:=HSok.out.live.get htl
        clear hj0
        obtain ⟨hv,hhve⟩ : ∃ hv,s.live.z.getD t 0 = hv:=⟨_,rfl⟩
        rw [hhve] at hhv hc5
        obtain rfl : adH = ad5:=by rw [EH.out] at e5;exact Option.some.inj e5
        have HC50:=kp hc5;have HHv : Kept (s.live.z.getD t 0 = hv):=kp hhve
        have hti : (t : Int) < (s.live.len : Int):=by omega
        have hki : (k : Int) < (nl : Int):=by omega
        clear hto htm hhve hc5 e5
        go_wp2
        go_loopw [15] (fun v15 wr => ∃ lk : Nat,lk ≤ 32 ∧ v15 = .int .i64 lk ∧ (∀ j,j < lk → bq.testBit j = true → hv.testBit j = true) ∧ Below w5.heap.size w5 wr) (fun v15 _ => 32 - (intOf v15).toNat)
        case atStart => exact ⟨0,by omega,rfl,fun j hj => by omega,HBo0.out⟩
        case round =>
          clear HBo0 HWo0
          obtain ⟨lk,hlk32,rfl,hall2,hbr⟩:=hrel
          have HAll2:=kp hall2;have HBr:=kp hbr
          have HWr:=kp (HW5.out.trans (hbr.mono hs5))
          have hsr:=hbr.size;have hsWr:=HWr.out.size
          have HKpr:=kp (HKp5.out.below hbr HKp5.out.lt);have HKnr:=kp (HKn5.out.below hbr HKn5.out.lt)
          by_cases hlk : lk < 32
          · have HS5r:=kp ((HWr.out.cell (p:=⟨(adL.add (f * 6)).block,(adL.add (f * 6)).off + 5,none⟩) (by show (adL.add (f * 6)).block < _;rw [add_block];omega)).trans HS5.out)
            have HC5:=kp ((HWr.out.cell (p:=adH.add t) (by rw [add_block];omega)).trans HC50.out)
            have HCt : Kept (wr.cell? (ad4.add k) = some (.int .i64 (t : Int))):=kp (by
              obtain ⟨ad',y,e',_,hy',hc'⟩:=(HR4.out.below hbr).get hlt
              cases e'
              rw [HTo.out] at hy';cases hy'
              exact hc')
            have had4 : ad4.block < wr.heap.size:=by omega
            have hlkb : decide ((lk : Int) < (32 : Int)) = true:=by simp;omega
            obtain ⟨fh,hfh⟩ : ∃ q,hv.testBit lk = q:=⟨_,rfl⟩
            have HFhb:=kp hfh
            have HFh : Kept (S.has hv (lk : Int) = fh):=kp (by rw [S.has_in _ _ (by omega)];exact hfh)
            obtain ⟨bb,hbb⟩ : ∃ q,bq.testBit lk = q:=⟨_,rfl⟩
            have HBqb:=kp hbb
            have HBb : Kept ((Ma.behind n h 0 p.s false).testBit lk = bb):=kp (by rw [HBeh.out];exact hbb)
            clear hall2 hbr hfh hbb
            cases bb with
            | false =>
              go_wp2
              apply jR (.is (ndA n) :: .is _ :: .is _ :: .is _ :: .is (.int .i64 p.s) :: .is _ :: .is _ :: .is (.bool false) :: .is _ :: .is undef :: .is undef :: .is undef :: .is undef :: .is undef :: .is undef :: .is undef :: .is undef :: .is undef :: .is undef :: .is undef :: .is undef :: .is undef :: .is undef :: .is (.bool false) :: [])
                [[],[],[],[],[(3,97)],[],[],[(0,94),(1,95),(2,96),(4,98),(5,99),(6,100)],[(7,101)],[(8,102)],[(8,102)],[(9,103),(10,104),(8,102)],[(11,105),(8,102)],[(12,106),(8,102)],[(8,102)],[(8,102)],[(14,108),(15,109),(8,102)],[(16,110),(8,102)],[(13,107),(17,111),(8,102)],[(18,112),(8,102)],[(8,102)],[(19,113),(20,114),(8,102)],[(21,115),(8,102)],[(8,102),(22,116)]]
                [(0,94),(1,95),(2,96),(3,97),(4,98),(5,99),(6,100),(7,101),(8,102),(9,103),(10,104),(11,105),(12,106),(13,107),(14,108),(15,109),(16,110),(17,111),(18,112),(19,113),(20,114),(21,115),(22,116),(23,117)] (by kernel_rfl) (by kernel_rfl)
              case hob =>
                refine ⟨?o0,?o1,?o2,?o3,?o4,?o5,?o6,?o7,?o8,?o9,?o10,?o11,?o12,?o13,?o14,?o15,?o16,?o17,?o18,?o19,?o20,?o21,?o22,?o23,trivial⟩
                case o0 =>
                  intro W hW;change wpList _ _ _ _ _ _
                  go_must (refine jN rfl 66 (.tmp 9) rfl gN rfl _ (ndC n) _ (HKnr.out.below hW HKnr.out.lt) Tryd.underlying66 rfl jD ?_)
                  go_wp2;exact j3 rfl rfl rfl
                case o1 => intro W hW;change wpList _ _ _ _ _ _;go_wp2;exact j3 rfl rfl rfl
                case o2 => intro W hW;change wpList _ _ _ _ _ _;go_wp2;exact j3 rfl rfl rfl
                case o3 => intro W hW;change wpList _ _ _ _ _ _;go_wp2;exact j3 rfl rfl rfl
                case o4 =>
                  intro W hW;rintro _ rfl;change wpList _ _ _ _ _ _
                  have hq:=(HKpr.out.below hW HKpr.out.lt).cell 2
                  simp only [pgC,List.getElem?_cons_zero,List.getElem?_cons_succ] at hq
                  go_wp2;exact j3 rfl rfl rfl
                case o5 => intro W hW;change wpList _ _ _ _ _ _;go_wp2;exact j3 rfl rfl rfl
                case o6 => intro W hW;change wpList _ _ _ _ _ _;go_wp2;exact j3 rfl rfl rfl
                case o7 =>
                  intro W hW;rintro _ rfl;rintro _ rfl;rintro _ rfl;rintro _ rfl;rintro _ rfl;rintro _ rfl;change wpList _ _ _ _ _ _
                  go_wp2_with fail
                  refine (lI n HNok.out h 0 hh (by omega) p.s false lk hlk false HBb.out W).mono ?_
                  rintro e w2 ⟨rfl,hb2⟩
                  have HBq:=kp hb2;clear hb2
                  go_wp2
                  exact jE rfl rfl rfl HBq.out rfl
                case o8 => intro W hW;rintro _ rfl;change wpList _ _ _ _ _ _;go_wp2;exact j3 rfl rfl rfl
                case o9 =>
                  intro W hW;rintro _ rfl;change wpList _ _ _ _ _ _
                  exact jC _ rfl rfl rfl rfl
                case o10 =>
                  intro W hW;rintro _ rfl;change wpList _ _ _ _ _ _
                  exact jC _ rfl rfl rfl rfl
                case o11 =>
                  intro W hW;rintro _ rfl;rintro _ rfl;rintro _ rfl;change wpList _ _ _ _ _ _
                  exact jC _ rfl rfl rfl rfl
                case o12 =>
                  intro W hW;rintro _ rfl;rintro _ rfl;change wpList _ _ _ _ _ _
                  exact jC _ rfl rfl rfl rfl
                case o13 =>
                  intro W hW;rintro _ rfl;rintro _ rfl;change wpList _ _ _ _ _ _
                  exact jC _ rfl rfl rfl rfl
                case o14 =>
                  intro W hW;rintro _ rfl;change wpList _ _ _ _ _ _
                  exact jC _ rfl rfl rfl rfl
                case o15 =>
                  intro W hW;rintro _ rfl;change wpList _ _ _ _ _ _
                  exact jC _ rfl rfl rfl rfl
                case o16 =>
                  intro W hW;rintro _ rfl;rintro _ rfl;rintro _ rfl;change wpList _ _ _ _ _ _
                  exact jC _ rfl rfl rfl rfl
                case o17 =>
                  intro W hW;rintro _ rfl;rintro _ rfl;change wpList _ _ _ _ _ _
                  exact jC _ rfl rfl rfl rfl
                case o18 =>
                  intro W hW;rintro _ rfl;rintro _ rfl;rintro _ rfl;change wpList _ _ _ _ _ _
                  exact jC _ rfl rfl rfl rfl
                case o19 =>
                  intro W hW;rintro _ rfl;rintro _ rfl;change wpList _ _ _ _ _ _
                  exact jC _ rfl rfl rfl rfl
                case o20 =>
                  intro W hW;rintro _ rfl;change wpList _ _ _ _ _ _
                  exact jC _ rfl rfl rfl rfl
                case o21 =>
                  intro W hW;rintro _ rfl;rintro _ rfl;rintro _ rfl;change wpList _ _ _ _ _ _
                  exact jC _ rfl rfl rfl rfl
                case o22 =>
                  intro W hW;rintro _ rfl;rintro _ rfl;change wpList _ _ _ _ _ _
                  exact jC _ rfl rfl rfl rfl
                case o23 => intro W hW;rintro _ rfl;rintro _ rfl;change wpList _ _ _ _ _ _;go_wp2;exact j3 rfl rfl rfl
              case hend =>
                intro W hW;rintro _ rfl;rintro _ rfl;rintro _ rfl;rintro _ rfl;rintro _ rfl;rintro _ rfl;rintro _ rfl;rintro _ rfl;rintro _ rfl;rintro _ rfl;rintro _ rfl;rintro _ rfl;rintro _ rfl;rintro _ rfl;rintro _ rfl;rintro _ rfl;rintro _ rfl;rintro _ rfl;rintro _ rfl;rintro _ rfl;rintro _ rfl;rintro _ rfl;rintro _ rfl;rintro _ rfl
                simp only [given,jI,List.set]
                have HBo:=kp (HBr.out.trans (hW.mono HBr.out.size))
                have HWo:=kp (HWr.out.trans (hW.mono HWr.out.size))
                clear hW
                have HThis : Kept (bq.testBit lk = true → hv.testBit lk = true):=kp (fun e => by rw [HBqb.out] at e;cases e)
                go_wp2
                go_roundw
                case rel => exact ⟨lk + 1,by omega,by go_num,(fun j hj hb1 => by
                  by_cases e : j = lk
                  · subst e;exact HThis.out hb1
                  · exact HAll2.out j (by omega) hb1),HBo.out⟩
                case measure => simp [intOf];omega
            | true =>
              go_wp2
              apply jR (.is (ndA n) :: .is _ :: .is _ :: .is _ :: .is (.int .i64 p.s) :: .is _ :: .is _ :: .is (.bool true) :: .is _ :: .is _ :: .is _ :: .is _ :: .is _ :: .is (.slice (some adH) s.live.len s.live.cap) :: .is _ :: .is _ :: .is _ :: .is (.int .i64 (t : Int)) :: .is _ :: .is (.int .u32 (hv : Int)) :: .is _ :: .is (.bool fh) :: .is (.bool (!fh)) :: .is (.bool (!fh)) :: [])
                [[],[],[],[],[(3,97)],[],[],[(0,94),(1,95),(2,96),(4,98),(5,99),(6,100)],[(7,101)],[(8,102)],[(8,102)],[(9,103),(10,104),(8,102)],[(11,105),(8,102)],[(12,106),(8,102)],[(8,102)],[(8,102)],[(14,108),(15,109),(8,102)],[(16,110),(8,102)],[(13,107),(17,111),(8,102)],[(18,112),(8,102)],[(8,102)],[(19,113),(20,114),(8,102)],[(21,115),(8,102)],[(8,102),(22,116)]]
                [(0,94),(1,95),(2,96),(3,97),(4,98),(5,99),(6,100),(7,101),(8,102),(9,103),(10,104),(11,105),(12,106),(13,107),(14,108),(15,109),(16,110),(17,111),(18,112),(19,113),(20,114),(21,115),(22,116),(23,117)] (by kernel_rfl) (by kernel_rfl)
              case hob =>
                refine ⟨?o0,?o1,?o2,?o3,?o4,?o5,?o6,?o7,?o8,?o9,?o10,?o11,?o12,?o13,?o14,?o15,?o16,?o17,?o18,?o19,?o20,?o21,?o22,?o23,trivial⟩
                case o0 =>
                  intro W hW;change wpList _ _ _ _ _ _
                  go_must (refine jN rfl 66 (.tmp 9) rfl gN rfl _ (ndC n) _ (HKnr.out.below hW HKnr.out.lt) Tryd.underlying66 rfl jD ?_)
                  go_wp2;exact j3 rfl rfl rfl
                case o1 => intro W hW;change wpList _ _ _ _ _ _;go_wp2;exact j3 rfl rfl rfl
                case o2 => intro W hW;change wpList _ _ _ _ _ _;go_wp2;exact j3 rfl rfl rfl
                case o3 => intro W hW;change wpList _ _ _ _ _ _;go_wp2;exact j3 rfl rfl rfl
                case o4 =>
                  intro W hW;rintro _ rfl;change wpList _ _ _ _ _ _
                  have hq:=(HKpr.out.below hW HKpr.out.lt).cell 2
                  simp only [pgC,List.getElem?_cons_zero,List.getElem?_cons_succ] at hq
                  go_wp2;exact j3 rfl rfl rfl
                case o5 => intro W hW;change wpList _ _ _ _ _ _;go_wp2;exact j3 rfl rfl rfl
                case o6 => intro W hW;change wpList _ _ _ _ _ _;go_wp2;exact j3 rfl rfl rfl
                case o7 =>
                  intro W hW;rintro _ rfl;rintro _ rfl;rintro _ rfl;rintro _ rfl;rintro _ rfl;rintro _ rfl;change wpList _ _ _ _ _ _
                  go_wp2_with fail
                  refine (lI n HNok.out h 0 hh (by omega) p.s false lk hlk true HBb.out W).mono ?_
                  rintro e w2 ⟨rfl,hb2⟩
                  have HBq:=kp hb2;clear hb2
                  go_wp2
                  exact jE rfl rfl rfl HBq.out rfl
                case o8 => intro W hW;rintro _ rfl;change wpList _ _ _ _ _ _;go_wp2;exact j3 rfl rfl rfl
                case o9 => intro W hW;rintro _ rfl;change wpList _ _ _ _ _ _;go_wp2;exact j3 rfl rfl rfl
                case o10 => intro W hW;rintro _ rfl;change wpList _ _ _ _ _ _;go_wp2;exact j3 rfl rfl rfl
                case o11 => intro W hW;rintro _ rfl;rintro _ rfl;rintro _ rfl;change wpList _ _ _ _ _ _;go_wp2;exact j3 rfl rfl rfl
                case o12 => intro W hW;rintro _ rfl;rintro _ rfl;change wpList _ _ _ _ _ _;go_wp2;exact j3 rfl rfl rfl
                case o13 =>
                  intro W hW;rintro _ rfl;rintro _ rfl;change wpList _ _ _ _ _ _
                  have hq:=(hW.cell (p:=⟨(adL.add (f * 6)).block,(adL.add (f * 6)).off + 5,none⟩) (by show (adL.add (f * 6)).block < _;rw [add_block];omega)).trans HS5r.out
                  go_wp2;exact j3 rfl rfl rfl
                case o14 => intro W hW;rintro _ rfl;change wpList _ _ _ _ _ _;go_wp2;exact j3 rfl rfl rfl
                case o15 => intro W hW;rintro _ rfl;change wpList _ _ _ _ _ _;go_wp2;exact j3 rfl rfl rfl
                case o16 => intro W hW;rintro _ rfl;rintro _ rfl;rintro _ rfl;change wpList _ _ _ _ _ _;go_wp2;exact j3 rfl rfl rfl
                case o17 =>
                  intro W hW;rintro _ rfl;rintro _ rfl;change wpList _ _ _ _ _ _
                  have hq:=(hW.cell (p:=ad4.add k) (by rw [add_block];omega)).trans HCt.out
                  go_wp2;exact j3 rfl rfl rfl
                case o18 => intro W hW;rintro _ rfl;rintro _ rfl;rintro _ rfl;change wpList _ _ _ _ _ _;go_wp2;exact j3 rfl rfl rfl
                case o19 =>
                  intro W hW;rintro _ rfl;rintro _ rfl;change wpList _ _ _ _ _ _
                  have hq:=(hW.cell (p:=adH.add t) (by rw [add_block];omega)).trans HC5.out
                  go_wp2;exact j3 rfl rfl rfl
                case o20 => intro W hW;rintro _ rfl;change wpList _ _ _ _ _ _;go_wp2;exact j3 rfl rfl rfl
                case o21 =>
                  intro W hW;rintro _ rfl;rintro _ rfl;rintro _ rfl;change wpList _ _ _ _ _ _
                  go_wp2_with fail
                  refine (jQ hv hhv (lk : Int) ⟨by omega,by omega⟩ fh HFh.out W).mono ?_
                  rintro e w2 ⟨rfl,rfl⟩
                  go_wp2
                  exact j3 rfl rfl rfl
                case o22 => intro W hW;rintro _ rfl;rintro _ rfl;change wpList _ _ _ _ _ _;go_wp2;exact j3 rfl rfl rfl
                case o23 => intro W hW;rintro _ rfl;rintro _ rfl;change wpList _ _ _ _ _ _;go_wp2;exact j3 rfl rfl rfl
              case hend =>
                intro W hW;rintro _ rfl;rintro _ rfl;rintro _ rfl;rintro _ rfl;rintro _ rfl;rintro _ rfl;rintro _ rfl;rintro _ rfl;rintro _ rfl;rintro _ rfl;rintro _ rfl;rintro _ rfl;rintro _ rfl;rintro _ rfl;rintro _ rfl;rintro _ rfl;rintro _ rfl;rintro _ rfl;rintro _ rfl;rintro _ rfl;rintro _ rfl;rintro _ rfl;rintro _ rfl;rintro _ rfl
                simp only [given,jI,List.set]
                have HBo:=kp (HBr.out.trans (hW.mono HBr.out.size))
                have HWo:=kp (HWr.out.trans (hW.mono HWr.out.size))
                clear hW
                cases fh with
                | false =>
                  have HE : Kept (6 = r):=kp (by
                    rw [← HR.out]
                    refine (Ma.node_bad HPast.out HTm.out ?_).symm
                    unfold Ma.badTo
                    rw [Int.toNat_natCast,HHv.out,HBqe.out,Bool.not_eq_true']
                    cases e : S.within bq hv 32 with
                    | false => rfl
                    | true =>
                      have h1:=(S.within_iff _ _).1 e lk hlk HBqb.out
                      rw [HFhb.out] at h1;cases h1)
                  go_wp2
                  go_ret
                  exact ⟨by rw [← HE.out];rfl,HWo.out⟩
                | true =>
                  have HThis : Kept (bq.testBit lk = true → hv.testBit lk = true):=kp (fun _ => HFhb.out)
                  go_wp2
                  go_roundw
                  case rel => exact ⟨lk + 1,by omega,by go_num,(fun j hj hb1 => by
                    by_cases e : j = lk
                    · subst e;exact HThis.out hb1
                    · exact HAll2.out j (by omega) hb1),HBo.out⟩
                  case measure => simp [intOf];omega
          · have hlkb : decide ((lk : Int) < (32 : Int)) = false:=by simp;omega
            have HOk : Kept (Ma.badTo bg p.s ls s n h (t : Int) = false):=kp (by
              unfold Ma.badTo
              rw [Int.toNat_natCast,HHv.out,HBqe.out,(S.within_iff _ _).2 fun j hj => HAll2.out j (by omega)];rfl)
            clear hlk hall2 hbr
            go_wp2
            go_roundw
            case rel => exact ⟨k + 1,by omega,by go_num,(fun y hy => by
              rw [List.take_add_one,HTo.out] at hy
              simp only [Option.toList_some,List.mem_append,List.mem_singleton] at hy
              rcases hy with hy | rfl
              · exact HAll.out y hy
              · exact HOk.out),HBr.out⟩
            case measure => simp [intOf];omega
      · have HE : Kept (0 = r):=kp (by
          rw [← HR.out]
          have h1:=HAll.out
          rw [List.take_of_length_le (by rw [HNl.out];omega)] at h1
          exact (Ma.node_fine HPast.out h1).symm)
        have hge : nl ≤ k:=by omega
        clear hlt
        go_wp2
        go_ret
        exact ⟨by rw [← HE.out];rfl,HWo0.out⟩
end Go.Proofs.YtoekiejipdabmaaDoor
