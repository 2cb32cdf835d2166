/- The document's interpreter, walked: Same. -/
import Derived.Test.YtnaomfmmkhgbhaaPk18
import Derived.Test.YtnaomfmmkhgbhaaPk10
namespace Go.Proofs.Ytnaomfmmkhgbhaa
open Go.RowKit
theorem uD : Try.prog.eqGuardType Try.prog.depth 92 = false:=by kernel_rfl
theorem rc_th {q : Rc} {k : Nat} {x : Sv} {sl : List Nat} (hx : q.svs[k]? = some x) (hs : q.sls[k]? = some sl) : q.cf.ths[k]? = some ⟨x.stack,sl⟩:=by
  unfold Rc.cf
  rw [List.getElem?_zipWith,hx,hs]
theorem qW {B : Nat} {W W2 : World} {ad : Addr} {cs : List Value} (hb : Below B W W2) (hlt : ad.block < B) (h : ∀ j v,cs[j]? = some v → W.cell? (ad.add j) = some v) : ∀ j v,cs[j]? = some v → W2.cell? (ad.add j) = some v:=fun j v hv =>
  (hb.cell (by rw [add_block];exact hlt)).trans (h j v hv)
theorem XA {W : World} {ad : Addr} {l : List Nat} {k : Nat} (h8 : l.length = 8) (h : ∀ j,j < 8 → W.cell? (ad.add (k * 8 + j)) = some (.int .i64 ((l.getD j 0 : Nat) : Int))) : ∀ j v,(l.map natV)[j]? = some v → W.cell? ((ad.add (k * 8)).add j) = some v:=fun j v hv => by
  have hj : j < l.length:=by have:=(List.getElem?_eq_some_iff.1 hv).1;simpa using this
  rw [List.getElem?_map,List.getElem?_eq_getElem hj] at hv
  rw [add_add,h j (by omega),← Option.some.inj hv,List.getD_eq_getElem?_getD,List.getElem?_eq_getElem hj];rfl
set_option maxRecDepth 100000 in
set_option maxHeartbeats 3200000 in
theorem rs_same (B : Nat) (q r : Rc) (w : World) (hq : q.Ok w B) (hr : r.Ok w B) (hB : B ≤ w.heap.size) (hq8 : ∀ l ∈ q.sls,l.length = 8) (hr8 : ∀ l ∈ r.sls,l.length = 8) (hq16 : q.ow.length = 16) (hr16 : r.ow.length = 16) (b : Bool) (hb : b = true ↔ q.cf = r.cf) :
    Calls Try.prog 31 #[rcA q,rcA r] w fun e w' => e = .returned (.bool b) ∧ Below w.heap.size w w':=by
  have HQ:=kp hq;have HR:=kp hr;have HQ8:=kp hq8;have HR8:=kp hr8
  have HQ16:=kp hq16;have HR16:=kp hr16;have HB:=kp hb
  have hqc:=hq.lc;have hrc:=hr.lc;have hqc2:=hq.lc2;have hrc2:=hr.lc2
  unfold maxLen at hqc hrc hqc2 hrc2
  obtain ⟨b1,hb1⟩ : ∃ b1,decide (q.ow = r.ow) = b1:=⟨_,rfl⟩
  have HB1 : Kept ((!decide (q.ow.map (fun n : Nat => (n : Int)) = r.ow.map (fun n : Nat => (n : Int)))) = !b1):=kp (by rw [J6,hb1])
  have HOw:=kp hb1
  have HLx : Kept ((q.ow.map (fun n : Nat => (n : Int))).length = 16):=kp (by rw [List.length_map];exact hq16)
  have HLy : Kept ((r.ow.map (fun n : Nat => (n : Int))).length = 16):=kp (by rw [List.length_map];exact hr16)
  have HQl:=kp hq.len;have HRl:=kp hr.len
  obtain ⟨n,hn⟩ : ∃ n,q.len = n:=⟨_,rfl⟩
  obtain ⟨m,hm⟩ : ∃ m,r.len = m:=⟨_,rfl⟩
  have HN:=kp hn;have HM:=kp hm
  have HEq : Kept (rcC q = .slice q.A n q.cap :: .slice q.A2 n q.cap2 :: q.ow.map natV):=kp (by unfold rcC;rw [hn])
  have HEr : Kept (rcC r = .slice r.A m r.cap :: .slice r.A2 m r.cap2 :: r.ow.map natV):=kp (by unfold rcC;rw [hm])
  rw [hn] at hqc hqc2
  rw [hm] at hrc hrc2
  obtain ⟨hqa,hqb⟩:=hqc;obtain ⟨hra,hrb⟩:=hrc;obtain ⟨hqa2,hqb2⟩:=hqc2;obtain ⟨hra2,hrb2⟩:=hrc2
  clear hq hr hq8 hr8 hq16 hr16 hb1 hb hn hm
  rw [lC,lC]
  by_cases hnm : n = m
  · subst hnm
    cases b1
    · have HE : Kept (false = b):=kp (by
        cases b
        · rfl
        · have h:=congrArg M.Cf.owners (HB.out.1 rfl)
          have h2 : q.ow = r.ow:=h
          have:=HOw.out;rw [h2] at this;simp at this)
      go_enter Try.func31,Try.ntmps31
      go_wp2_with (first
        | ((with_reducible refine j2 rfl 79 (.tmp 0) rfl (rcC q) rfl ?_);intro g1 w1 hg1 hk1 hw1;have HK1:=kp hk1;have HW1:=kp hw1;have hs1:=hw1.size;have hl1:=hk1.lt;clear hk1 hw1)
        | ((with_reducible refine j2 rfl 79 (.tmp 1) rfl (rcC r) rfl ?_);intro g2 w2 hg2 hk2 hw2;have HK2:=kp hk2;have HK12:=kp (HK1.out.below hw2 hl1);have HW2:=kp (HW1.out.trans (hw2.mono hs1));have hs2:=HW2.out.size;have hl12:=HK12.out.lt;have hl2:=hk2.lt
           have hc1:=HK12.out.cell 0;have hc2:=HK2.out.cell 0
           rw [HEq.out,List.getElem?_cons_zero] at hc1
           rw [HEr.out,List.getElem?_cons_zero] at hc2
           have HR1 : Kept (w2.rangeAt g1 2 (q.ow.map natV)):=kp (by have h:=HK12.out.range 2 16;unfold rcC at h;rw [List.drop_succ_cons,List.drop_succ_cons,List.drop_zero,List.take_of_length_le (by rw [List.length_map,HQ16.out];exact Nat.le_refl _)] at h;exact h)
           have HR2 : Kept (w2.rangeAt g2 2 (r.ow.map natV)):=kp (by have h:=HK2.out.range 2 16;unfold rcC at h;rw [List.drop_succ_cons,List.drop_succ_cons,List.drop_zero,List.take_of_length_le (by rw [List.length_map,HR16.out];exact Nat.le_refl _)] at h;exact h)
           clear hk2 hw2)
        | ((with_reducible show Sl 16);go_must (refine q7 rfl 44 (.tmp 15) rfl g1 2 rfl _ _ HR1.out Try.underlying44 rfl (by rw [List.length_map,HQ16.out];exact qE) ?_))
        | ((with_reducible show Sl 18);go_must (refine q7 rfl 44 (.tmp 17) rfl g2 2 rfl _ _ HR2.out Try.underlying44 rfl (by rw [List.length_map,HR16.out];exact qE) ?_))
        | ((with_reducible show Sl 19);go_must (refine q5 rfl 44 _ (.tmp 16) (.tmp 18) rfl 16 3 .i64 .i64 Try.underlying44 Try.underlying3 l7 xN _ _ HLx.out HLy.out (by rw [← lP];rfl) (by rw [← lP];rfl) _ HB1.out ?_)))
      go_ret
      exact ⟨jG HE.out,HW2.out⟩
    · have HOwE : Kept (q.ow = r.ow):=kp (by have:=HOw.out;simpa using this)
      have HAll : Kept (b = true ↔ q.cf.ths = r.cf.ths):=kp (by
        rw [HB.out]
        constructor
        · intro h;rw [h]
        · intro h
          have h1 : q.cf = ⟨q.cf.ths,q.ow⟩:=rfl
          have h2 : r.cf = ⟨r.cf.ths,r.ow⟩:=rfl
          rw [h1,h2,h,HOwE.out])
      go_enter Try.func31,Try.ntmps31
      go_wp2_with (first
        | ((with_reducible refine j2 rfl 79 (.tmp 0) rfl (rcC q) rfl ?_);intro g1 w1 hg1 hk1 hw1;have HK1:=kp hk1;have HW1:=kp hw1;have hs1:=hw1.size;have hl1:=hk1.lt;clear hk1 hw1)
        | ((with_reducible refine j2 rfl 79 (.tmp 1) rfl (rcC r) rfl ?_);intro g2 w2 hg2 hk2 hw2;have HK2:=kp hk2;have HK12:=kp (HK1.out.below hw2 hl1);have HW2:=kp (HW1.out.trans (hw2.mono hs1));have hs2:=HW2.out.size;have hl12:=HK12.out.lt;have hl2:=hk2.lt
           have hc1:=HK12.out.cell 0;have hc2:=HK2.out.cell 0
           rw [HEq.out,List.getElem?_cons_zero] at hc1
           rw [HEr.out,List.getElem?_cons_zero] at hc2
           have HR1 : Kept (w2.rangeAt g1 2 (q.ow.map natV)):=kp (by have h:=HK12.out.range 2 16;unfold rcC at h;rw [List.drop_succ_cons,List.drop_succ_cons,List.drop_zero,List.take_of_length_le (by rw [List.length_map,HQ16.out];exact Nat.le_refl _)] at h;exact h)
           have HR2 : Kept (w2.rangeAt g2 2 (r.ow.map natV)):=kp (by have h:=HK2.out.range 2 16;unfold rcC at h;rw [List.drop_succ_cons,List.drop_succ_cons,List.drop_zero,List.take_of_length_le (by rw [List.length_map,HR16.out];exact Nat.le_refl _)] at h;exact h)
           clear hk2 hw2)
        | ((with_reducible show Sl 16);go_must (refine q7 rfl 44 (.tmp 15) rfl g1 2 rfl _ _ HR1.out Try.underlying44 rfl (by rw [List.length_map,HQ16.out];exact qE) ?_))
        | ((with_reducible show Sl 18);go_must (refine q7 rfl 44 (.tmp 17) rfl g2 2 rfl _ _ HR2.out Try.underlying44 rfl (by rw [List.length_map,HR16.out];exact qE) ?_))
        | ((with_reducible show Sl 19);go_must (refine q5 rfl 44 _ (.tmp 16) (.tmp 18) rfl 16 3 .i64 .i64 Try.underlying44 Try.underlying3 l7 xN _ _ HLx.out HLy.out (by rw [← lP];rfl) (by rw [← lP];rfl) _ HB1.out ?_)))
      clear hc1 hc2
      go_loopw [5] (fun v5 wr => ∃ i : Nat,i ≤ n ∧ v5 = .int .i64 i ∧ q.cf.ths.take i = r.cf.ths.take i ∧ Below w2.heap.size w2 wr) (fun v5 _ => n - (intOf v5).toNat)
      case atStart => exact ⟨0,by omega,rfl,rfl,Below.refl _ _⟩
      case round =>
        obtain ⟨i,hi,rfl,htk,hbl⟩:=hrel
        have HTk:=kp htk;have HBl:=kp hbl
        have hsw:=hbl.size
        have hc1:=(HK12.out.below hbl hl12).cell 0;have hc2:=(HK2.out.below hbl hl2).cell 0
        have hd1:=(HK12.out.below hbl hl12).cell 1;have hd2:=(HK2.out.below hbl hl2).cell 1
        rw [HEq.out] at hc1 hd1
        rw [HEr.out] at hc2 hd2
        simp only [List.getElem?_cons_zero,List.getElem?_cons_succ] at hc1 hc2 hd1 hd2
        clear htk hbl
        by_cases hlt : i < n
        · obtain ⟨ad,x,ad2,sl,hA,hadb,hx,hxok,hcx,hA2,had2b,hsl,_,hxl,hcs⟩:=HQ.out.thread (show i < q.len by rw [HN.out];exact hlt)
          obtain ⟨ae,y,ae2,tl,hE,haeb,hy,hyok,hcy,hE2,hae2b,htl,_,hyl,hct⟩:=HR.out.thread (show i < r.len by rw [HM.out];exact hlt)
          have h8x:=HQ8.out sl (List.mem_of_getElem? hsl);have h8y:=HR8.out tl (List.mem_of_getElem? htl)
          have HT1:=kp (rc_th hx hsl);have HT2:=kp (rc_th hy htl)
          have HSn:=kp (xE HTk.out HT1.out HT2.out)
          have HNo : Kept ((⟨x.stack,sl⟩ : M.Th) ≠ ⟨y.stack,tl⟩ → false = b):=kp (fun h => by
            cases b
            · rfl
            · have h1:=HAll.out.1 rfl
              have h2:=HT1.out
              rw [h1,HT2.out] at h2
              exact absurd (Option.some.inj h2).symm h)
          have HB2 : Kept (Below w.heap.size w wr):=kp (HW2.out.trans (HBl.out.mono hs2))
          have HCx : Kept (∀ j v,(sl.map natV)[j]? = some v → wr.cell? ((ad2.add (i * 8)).add j) = some v):=kp (XA h8x fun j hj => by
            exact (HB2.out.cell (by rw [add_block];omega)).trans (hcs j hj))
          have HCy : Kept (∀ j v,(tl.map natV)[j]? = some v → wr.cell? ((ae2.add (i * 8)).add j) = some v):=kp (XA h8y fun j hj => by
            exact (HB2.out.cell (by rw [add_block];omega)).trans (hct j hj))
          have hcx2:=(HB2.out.cell (p:=ad.add i) (by rw [add_block];omega)).trans hcx
          have hcy2:=(HB2.out.cell (p:=ae.add i) (by rw [add_block];omega)).trans hcy
          have HLs : Kept ((sl.map (fun n : Nat => (n : Int))).length = 8):=kp (by rw [List.length_map];exact h8x)
          have HLt : Kept ((tl.map (fun n : Nat => (n : Int))).length = 8):=kp (by rw [List.length_map];exact h8y)
          have H8x:=kp h8x;have H8y:=kp h8y
          obtain ⟨b2,hb2⟩ : ∃ b2,decide (sl = tl) = b2:=⟨_,rfl⟩
          have HB2e : Kept ((!decide (sl.map (fun n : Nat => (n : Int)) = tl.map (fun n : Nat => (n : Int)))) = !b2):=kp (by rw [J6,hb2])
          have HSl:=kp hb2
          have HXo:=kp hxok;have HYo:=kp hyok;have HXl:=kp hxl;have HYl:=kp hyl
          have hx1:=hxok.lc;have hx2:=hxok.cm;have hy1:=hyok.lc;have hy2:=hyok.cm
          unfold maxLen at hx2 hy2
          rw [hA] at hc1
          rw [hE] at hc2
          rw [hA2] at hd1
          rw [hE2] at hd2
          have hadw : ad.block < wr.heap.size:=by omega
          have haew : ae.block < wr.heap.size:=by omega
          have had2w : ad2.block < wr.heap.size:=by omega
          have hae2w : ae2.block < wr.heap.size:=by omega
          have hl1w : g1 < wr.heap.size:=by omega
          have hl2w : g2 < wr.heap.size:=by omega
          have HC1:=kp hc1;have HC2:=kp hc2;have HD1:=kp hd1;have HD2:=kp hd2;have HCX:=kp hcx2;have HCY:=kp hcy2
          have hqi : (i : Int) < (n : Int):=by omega
          clear hc2 hd1 hd2 hcx2 hcy2
          clear hA hE hA2 hE2 hx hy hxok hyok hcx hcy hsl htl hxl hyl hcs hct h8x h8y hb2
          go_wp2
          clear hc1
          cases b2
          · have HE:=kp (HNo.out (fun e => by have h:=congrArg M.Th.slots e;have h2 : sl = tl:=h;have:=HSl.out;rw [h2] at this;simp at this))
            apply lN (.is _ :: .is _ :: .is _ :: .is _ :: .is (.agg (sl.map natV).toArray) :: .is _ :: .is _ :: .is _ :: .is _ :: .is (.agg (tl.map natV).toArray) :: .is (.bool true) :: .is _ :: .is _ :: .is _ :: .is _ :: .is _ :: .is _ :: .is _ :: .is _ :: .is _ :: .is _ :: .is _ :: .is _ :: .is _ :: .is _ :: .is _ :: [])
              [[],[(0,28)],[],[(1,29),(2,30)],[(3,31)],[],[(5,33)],[],[(6,34),(7,35)],[(8,36)],[(4,32),(9,37)],[(10,38)],[(11,39)],[(12,40),(11,39)],[(11,39)],[(13,41),(14,42),(11,39)],[(15,43),(11,39)],[(16,44),(11,39)],[(11,39)],[(18,46),(11,39)],[(11,39)],[(19,47),(20,48),(11,39)],[(21,49),(11,39)],[(22,50),(11,39)],[(17,45),(23,51),(11,39)],[(11,39),(24,52)]]
              [(0,28),(1,29),(2,30),(3,31),(4,32),(5,33),(6,34),(7,35),(8,36),(9,37),(10,38),(11,39),(12,40),(13,41),(14,42),(15,43),(16,44),(17,45),(18,46),(19,47),(20,48),(21,49),(22,50),(23,51),(24,52),(25,53)] (by kernel_rfl) (by kernel_rfl)
            case hob =>
              refine ⟨?o0,?o1,?o2,?o3,?o4,?o5,?o6,?o7,?o8,?o9,?o10,?o11,?o12,?o13,?o14,?o15,?o16,?o17,?o18,?o19,?o20,?o21,?o22,?o23,?o24,?o25,trivial⟩
              case o0 => intro W hW;change wpList _ _ _ _ _ _;go_wp2;exact j0 rfl rfl rfl
              case o1 =>
                intro W hW;rintro _ rfl;change wpList _ _ _ _ _ _
                have h:=(hW.cell (p:=⟨g1,1,none⟩) (hl1w)).trans HD1.out
                go_wp2;exact j0 rfl rfl rfl
              case o2 => intro W hW;change wpList _ _ _ _ _ _;go_wp2;exact j0 rfl rfl rfl
              case o3 => intro W hW;rintro _ rfl;rintro _ rfl;change wpList _ _ _ _ _ _;go_wp2;exact j0 rfl rfl rfl
              case o4 =>
                intro W hW;rintro _ rfl;change wpList _ _ _ _ _ _
                have hh:=qW (B:=wr.heap.size) hW (by rw [add_block];omega) HCx.out
                go_must (refine jL rfl 92 (.tmp 31) rfl (ad2.add (i * 8)) rfl (sl.map natV) _ hh Try.underlying92 rfl (by rw [List.length_map,H8x.out];exact lF) ?_)
                clear hh
                go_wp2;exact j0 rfl rfl rfl
              case o5 => intro W hW;change wpList _ _ _ _ _ _;go_wp2;exact j0 rfl rfl rfl
              case o6 =>
                intro W hW;rintro _ rfl;change wpList _ _ _ _ _ _
                have h:=(hW.cell (p:=⟨g2,1,none⟩) (hl2w)).trans HD2.out
                go_wp2;exact j0 rfl rfl rfl
              case o7 => intro W hW;change wpList _ _ _ _ _ _;go_wp2;exact j0 rfl rfl rfl
              case o8 => intro W hW;rintro _ rfl;rintro _ rfl;change wpList _ _ _ _ _ _;go_wp2;exact j0 rfl rfl rfl
              case o9 =>
                intro W hW;rintro _ rfl;change wpList _ _ _ _ _ _
                have hh:=qW (B:=wr.heap.size) hW (by rw [add_block];omega) HCy.out
                go_must (refine jL rfl 92 (.tmp 36) rfl (ae2.add (i * 8)) rfl (tl.map natV) _ hh Try.underlying92 rfl (by rw [List.length_map,H8y.out];exact lF) ?_)
                clear hh
                go_wp2;exact j0 rfl rfl rfl
              case o10 =>
                intro W hW;rintro _ rfl;rintro _ rfl;change wpList _ _ _ _ _ _
                go_must (refine q5 rfl 92 _ (.tmp 32) (.tmp 37) rfl 8 3 .i64 .i64 Try.underlying92 Try.underlying3 l7 uD _ _ HLs.out HLt.out (by rw [← lP];rfl) (by rw [← lP];rfl) _ HB2e.out ?_)
                go_wp2;exact j0 rfl rfl rfl
              case o11 => intro W hW;rintro _ rfl;change wpList _ _ _ _ _ _;go_wp2;exact j0 rfl rfl rfl
              case o12 => intro W hW;rintro _ rfl;change wpList _ _ _ _ _ _;go_wp2;exact j0 rfl rfl rfl
              case o13 => intro W hW;rintro _ rfl;rintro _ rfl;change wpList _ _ _ _ _ _;go_wp2;exact j0 rfl rfl rfl
              case o14 => intro W hW;rintro _ rfl;change wpList _ _ _ _ _ _;go_wp2;exact j0 rfl rfl rfl
              case o15 => intro W hW;rintro _ rfl;rintro _ rfl;rintro _ rfl;change wpList _ _ _ _ _ _;go_wp2;exact j0 rfl rfl rfl
              case o16 => intro W hW;rintro _ rfl;rintro _ rfl;change wpList _ _ _ _ _ _;go_wp2;exact j0 rfl rfl rfl
              case o17 => intro W hW;rintro _ rfl;rintro _ rfl;change wpList _ _ _ _ _ _;go_wp2;exact j0 rfl rfl rfl
              case o18 => intro W hW;rintro _ rfl;change wpList _ _ _ _ _ _;go_wp2;exact j0 rfl rfl rfl
              case o19 => intro W hW;rintro _ rfl;rintro _ rfl;change wpList _ _ _ _ _ _;go_wp2;exact j0 rfl rfl rfl
              case o20 => intro W hW;rintro _ rfl;change wpList _ _ _ _ _ _;go_wp2;exact j0 rfl rfl rfl
              case o21 => intro W hW;rintro _ rfl;rintro _ rfl;rintro _ rfl;change wpList _ _ _ _ _ _;go_wp2;exact j0 rfl rfl rfl
              case o22 => intro W hW;rintro _ rfl;rintro _ rfl;change wpList _ _ _ _ _ _;go_wp2;exact j0 rfl rfl rfl
              case o23 => intro W hW;rintro _ rfl;rintro _ rfl;change wpList _ _ _ _ _ _;go_wp2;exact j0 rfl rfl rfl
              case o24 => intro W hW;rintro _ rfl;rintro _ rfl;rintro _ rfl;change wpList _ _ _ _ _ _;go_wp2;exact j0 rfl rfl rfl
              case o25 => intro W hW;rintro _ rfl;rintro _ rfl;change wpList _ _ _ _ _ _;go_wp2;exact j0 rfl rfl rfl
            case hend =>
              intro W hW;rintro _ rfl;rintro _ rfl;rintro _ rfl;rintro _ rfl;rintro _ rfl;rintro _ rfl;rintro _ rfl;rintro _ rfl;rintro _ rfl;rintro _ rfl;rintro _ rfl;rintro _ rfl;rintro _ rfl;rintro _ rfl;rintro _ rfl;rintro _ rfl;rintro _ rfl;rintro _ rfl;rintro _ rfl;rintro _ rfl;rintro _ rfl;rintro _ rfl;rintro _ rfl;rintro _ rfl;rintro _ rfl;rintro _ rfl
              simp only [given,jF,List.set]
              have HBW:=kp (HB2.out.trans (hW.mono (by have:=HB2.out.size;omega)))
              clear hW
              go_wp2
              go_ret
              exact ⟨jG HE.out,HBW.out⟩
          have HSe : Kept (sl = tl):=kp (by have:=HSl.out;simpa using this)
          by_cases hlen : x.len = y.len
          · have hne : ((x.len : Int) != (y.len : Int)) = false:=by rw [hlen];exact bne_self_eq_false _
            have HLen:=kp hlen
            clear hlen
            apply lN (.is _ :: .is _ :: .is _ :: .is _ :: .is (.agg (sl.map natV).toArray) :: .is _ :: .is _ :: .is _ :: .is _ :: .is (.agg (tl.map natV).toArray) :: .is (.bool false) :: .is _ :: .is _ :: .is _ :: .is _ :: .is _ :: .is _ :: .is _ :: .is _ :: .is _ :: .is _ :: .is _ :: .is _ :: .is _ :: .is _ :: .is _ :: [])
              [[],[(0,28)],[],[(1,29),(2,30)],[(3,31)],[],[(5,33)],[],[(6,34),(7,35)],[(8,36)],[(4,32),(9,37)],[(10,38)],[(11,39)],[(12,40),(11,39)],[(11,39)],[(13,41),(14,42),(11,39)],[(15,43),(11,39)],[(16,44),(11,39)],[(11,39)],[(18,46),(11,39)],[(11,39)],[(19,47),(20,48),(11,39)],[(21,49),(11,39)],[(22,50),(11,39)],[(17,45),(23,51),(11,39)],[(11,39),(24,52)]]
              [(0,28),(1,29),(2,30),(3,31),(4,32),(5,33),(6,34),(7,35),(8,36),(9,37),(10,38),(11,39),(12,40),(13,41),(14,42),(15,43),(16,44),(17,45),(18,46),(19,47),(20,48),(21,49),(22,50),(23,51),(24,52),(25,53)] (by kernel_rfl) (by kernel_rfl)
            case hob =>
              refine ⟨?o0,?o1,?o2,?o3,?o4,?o5,?o6,?o7,?o8,?o9,?o10,?o11,?o12,?o13,?o14,?o15,?o16,?o17,?o18,?o19,?o20,?o21,?o22,?o23,?o24,?o25,trivial⟩
              case o0 => intro W hW;change wpList _ _ _ _ _ _;go_wp2;exact j0 rfl rfl rfl
              case o1 =>
                intro W hW;rintro _ rfl;change wpList _ _ _ _ _ _
                have h:=(hW.cell (p:=⟨g1,1,none⟩) (hl1w)).trans HD1.out
                go_wp2;exact j0 rfl rfl rfl
              case o2 => intro W hW;change wpList _ _ _ _ _ _;go_wp2;exact j0 rfl rfl rfl
              case o3 => intro W hW;rintro _ rfl;rintro _ rfl;change wpList _ _ _ _ _ _;go_wp2;exact j0 rfl rfl rfl
              case o4 =>
                intro W hW;rintro _ rfl;change wpList _ _ _ _ _ _
                have hh:=qW (B:=wr.heap.size) hW (by rw [add_block];omega) HCx.out
                go_must (refine jL rfl 92 (.tmp 31) rfl (ad2.add (i * 8)) rfl (sl.map natV) _ hh Try.underlying92 rfl (by rw [List.length_map,H8x.out];exact lF) ?_)
                clear hh
                go_wp2;exact j0 rfl rfl rfl
              case o5 => intro W hW;change wpList _ _ _ _ _ _;go_wp2;exact j0 rfl rfl rfl
              case o6 =>
                intro W hW;rintro _ rfl;change wpList _ _ _ _ _ _
                have h:=(hW.cell (p:=⟨g2,1,none⟩) (hl2w)).trans HD2.out
                go_wp2;exact j0 rfl rfl rfl
              case o7 => intro W hW;change wpList _ _ _ _ _ _;go_wp2;exact j0 rfl rfl rfl
              case o8 => intro W hW;rintro _ rfl;rintro _ rfl;change wpList _ _ _ _ _ _;go_wp2;exact j0 rfl rfl rfl
              case o9 =>
                intro W hW;rintro _ rfl;change wpList _ _ _ _ _ _
                have hh:=qW (B:=wr.heap.size) hW (by rw [add_block];omega) HCy.out
                go_must (refine jL rfl 92 (.tmp 36) rfl (ae2.add (i * 8)) rfl (tl.map natV) _ hh Try.underlying92 rfl (by rw [List.length_map,H8y.out];exact lF) ?_)
                clear hh
                go_wp2;exact j0 rfl rfl rfl
              case o10 =>
                intro W hW;rintro _ rfl;rintro _ rfl;change wpList _ _ _ _ _ _
                go_must (refine q5 rfl 92 _ (.tmp 32) (.tmp 37) rfl 8 3 .i64 .i64 Try.underlying92 Try.underlying3 l7 uD _ _ HLs.out HLt.out (by rw [← lP];rfl) (by rw [← lP];rfl) _ HB2e.out ?_)
                go_wp2;exact j0 rfl rfl rfl
              case o11 => intro W hW;rintro _ rfl;change wpList _ _ _ _ _ _;go_wp2;exact j0 rfl rfl rfl
              case o12 => intro W hW;rintro _ rfl;change wpList _ _ _ _ _ _;go_wp2;exact j0 rfl rfl rfl
              case o13 =>
                intro W hW;rintro _ rfl;rintro _ rfl;change wpList _ _ _ _ _ _
                have h:=(hW.cell (p:=⟨g1,0,none⟩) (hl1w)).trans HC1.out
                go_wp2;exact j0 rfl rfl rfl
              case o14 => intro W hW;rintro _ rfl;change wpList _ _ _ _ _ _;go_wp2;exact j0 rfl rfl rfl
              case o15 => intro W hW;rintro _ rfl;rintro _ rfl;rintro _ rfl;change wpList _ _ _ _ _ _;go_wp2;exact j0 rfl rfl rfl
              case o16 =>
                intro W hW;rintro _ rfl;rintro _ rfl;change wpList _ _ _ _ _ _
                have h:=(hW.cell (p:=ad.add i) (by rw [add_block];omega)).trans HCX.out
                go_wp2;exact j0 rfl rfl rfl
              case o17 => intro W hW;rintro _ rfl;rintro _ rfl;change wpList _ _ _ _ _ _;go_wp2;exact j0 rfl rfl rfl
              case o18 => intro W hW;rintro _ rfl;change wpList _ _ _ _ _ _;go_wp2;exact j0 rfl rfl rfl
              case o19 =>
                intro W hW;rintro _ rfl;rintro _ rfl;change wpList _ _ _ _ _ _
                have h:=(hW.cell (p:=⟨g2,0,none⟩) (hl2w)).trans HC2.out
                go_wp2;exact j0 rfl rfl rfl
              case o20 => intro W hW;rintro _ rfl;change wpList _ _ _ _ _ _;go_wp2;exact j0 rfl rfl rfl
              case o21 => intro W hW;rintro _ rfl;rintro _ rfl;rintro _ rfl;change wpList _ _ _ _ _ _;go_wp2;exact j0 rfl rfl rfl
              case o22 =>
                intro W hW;rintro _ rfl;rintro _ rfl;change wpList _ _ _ _ _ _
                have h:=(hW.cell (p:=ae.add i) (by rw [add_block];omega)).trans HCY.out
                go_wp2;exact j0 rfl rfl rfl
              case o23 => intro W hW;rintro _ rfl;rintro _ rfl;change wpList _ _ _ _ _ _;go_wp2;exact j0 rfl rfl rfl
              case o24 => intro W hW;rintro _ rfl;rintro _ rfl;rintro _ rfl;change wpList _ _ _ _ _ _;go_wp2;exact j0 rfl rfl rfl
              case o25 => intro W hW;rintro _ rfl;rintro _ rfl;change wpList _ _ _ _ _ _;go_wp2;exact j0 rfl rfl rfl
            case hend =>
              intro W hW;rintro _ rfl;rintro _ rfl;rintro _ rfl;rintro _ rfl;rintro _ rfl;rintro _ rfl;rintro _ rfl;rintro _ rfl;rintro _ rfl;rintro _ rfl;rintro _ rfl;rintro _ rfl;rintro _ rfl;rintro _ rfl;rintro _ rfl;rintro _ rfl;rintro _ rfl;rintro _ rfl;rintro _ rfl;rintro _ rfl;rintro _ rfl;rintro _ rfl;rintro _ rfl;rintro _ rfl;rintro _ rfl;rintro _ rfl
              simp only [given,jF,List.set]
              have HBW:=kp (HBl.out.trans (hW.mono hsw));have HWW:=kp hW
              have hsW:=hW.size
              have hc1:=(hW.cell (p:=⟨g1,0,none⟩) hl1w).trans HC1.out
              have hcx:=(hW.cell (p:=ad.add i) (by rw [add_block];omega)).trans HCX.out
              clear hW
              go_wp2
              clear hc1 hcx hne
              go_loopw [6] (fun v6 W2 => ∃ j : Nat,j ≤ x.len ∧ v6 = .int .i64 j ∧ x.stack.take j = y.stack.take j ∧ Below W.heap.size W W2) (fun v6 _ => x.len - (intOf v6).toNat)
              case atStart => exact ⟨0,by omega,rfl,rfl,Below.refl _ _⟩
              case round =>
                obtain ⟨j,hj,rfl,htj,hbj⟩:=hrel
                have HTj:=kp htj;have HBj:=kp hbj
                have HWj:=kp (HWW.out.trans (hbj.mono hsW))
                have hc1:=(HWj.out.cell (p:=⟨g1,0,none⟩) hl1w).trans HC1.out
                have hcx:=(HWj.out.cell (p:=ad.add i) (by rw [add_block];omega)).trans HCX.out
                have hc2:=(HWj.out.cell (p:=⟨g2,0,none⟩) hl2w).trans HC2.out
                have hcy:=(HWj.out.cell (p:=ae.add i) (by rw [add_block];omega)).trans HCY.out
                have HBt:=kp (HBW.out.trans (hbj.mono HBW.out.size));have HB0:=kp (HW2.out.trans (HBt.out.mono hs2))
                clear htj hbj
                by_cases hjl : j < x.len
                · obtain ⟨ax,f1,e1,hax,hfx,k0,hk⟩:=HXo.out.row.field hjl
                  obtain ⟨ay,f2,e2,hay,hfy,k0',hk'⟩:=HYo.out.row.field (show j < y.len by rw [← HLen.out];exact hjl)
                  have hE1 : x.A = some ax:=e1
                  have hE2 : y.A = some ay:=e2
                  have HSj:=kp (xE HTj.out hfx hfy)
                  have HNj : Kept (f1 ≠ f2 → false = b):=kp (fun h => HNo.out (fun e => h (by
                    have e3 : x.stack = y.stack:=congrArg M.Th.stack e
                    rw [e3] at hfx
                    rw [hfx] at hfy
                    exact Option.some.inj hfy)))
                  have hf0:=(HB0.out.cell (p:=ax.add (j * 2)) (by rw [add_block];omega)).trans (k0 (by omega))
                  have hf1:=(HB0.out.cell (p:=⟨(ax.add (j * 2)).block,(ax.add (j * 2)).off + 1,none⟩) (by rw [add_block];omega)).trans (hk 1 (by omega) (by omega))
                  have hh0:=(HB0.out.cell (p:=ay.add (j * 2)) (by rw [add_block];omega)).trans (k0' (by omega))
                  have hh1:=(HB0.out.cell (p:=⟨(ay.add (j * 2)).block,(ay.add (j * 2)).off + 1,none⟩) (by rw [add_block];omega)).trans (hk' 1 (by omega) (by omega))
                  obtain ⟨a1,a2⟩:=f1
                  obtain ⟨c1,c2⟩:=f2
                  have hf0' : wr.cell? (ax.add (j * 2)) = some (.int .i64 (a1 : Int)):=hf0
                  have hf1' : wr.cell? ⟨(ax.add (j * 2)).block,(ax.add (j * 2)).off + 1,none⟩ = some (.int .i64 (a2 : Int)):=hf1
                  have hh0' : wr.cell? (ay.add (j * 2)) = some (.int .i64 (c1 : Int)):=hh0
                  have hh1' : wr.cell? ⟨(ay.add (j * 2)).block,(ay.add (j * 2)).off + 1,none⟩ = some (.int .i64 (c2 : Int)):=hh1
                  have hjy : j < y.len:=by rw [← HLen.out];exact hjl
                  rw [hE1] at hcx
                  rw [hE2] at hcy
                  clear hf0 hf1 hh0 hh1 k0 hk k0' hk' hfx hfy e1 e2 hE1 hE2
                  by_cases h1 : a1 = c1
                  · by_cases h2 : a2 = c2
                    · subst h1 h2
                      have HNx:=kp (HSj.out.2 rfl)
                      go_wp2
                      go_quiet (fail)
                      go_wp2
                      go_roundw
                      case rel => exact ⟨j + 1,by omega,by go_num,HNx.out,below_drewN HBj.out _⟩
                      case measure => simp [intOf];omega
                    · have hbe2 : ((a2 : Int) == (c2 : Int)) = false:=by rw [beq_eq_false_iff_ne];omega
                      have HE:=kp (HNj.out (fun e => h2 (congrArg Prod.snd e)))
                      subst h1
                      go_wp2
                      go_quiet (fail)
                      go_wp2
                      go_ret
                      exact ⟨jG HE.out,below_drewN HB0.out _⟩
                  · have hbe1 : ((a1 : Int) == (c1 : Int)) = false:=by rw [beq_eq_false_iff_ne];omega
                    have HE:=kp (HNj.out (fun e => h1 (congrArg Prod.fst e)))
                    go_wp2
                    go_quiet (fail)
                    go_wp2
                    go_ret
                    exact ⟨jG HE.out,below_drewN HB0.out _⟩
                · have hgej : x.len ≤ j:=by omega
                  have HStE : Kept (x.stack = y.stack):=kp (by
                    have h:=HTj.out
                    rwa [List.take_of_length_le (by rw [HXl.out];exact hgej),List.take_of_length_le (by rw [HYl.out,← HLen.out];exact hgej)] at h)
                  have HNi:=kp (HSn.out.2 (by rw [HStE.out,HSe.out]))
                  clear hjl
                  go_wp2
                  go_roundw
                  case rel => exact ⟨i + 1,by omega,by go_num,HNi.out,HBt.out⟩
                  case measure => simp [intOf];omega
          · have hne : ((x.len : Int) != (y.len : Int)) = true:=by rw [bne_iff_ne];omega
            have HE:=kp (HNo.out (fun e => by have h:=congrArg (fun c => (M.Th.stack c).length) e;have h2 : x.stack.length = y.stack.length:=h;rw [HXl.out,HYl.out] at h2;exact hlen h2))
            clear hlen
            apply lN (.is _ :: .is _ :: .is _ :: .is _ :: .is (.agg (sl.map natV).toArray) :: .is _ :: .is _ :: .is _ :: .is _ :: .is (.agg (tl.map natV).toArray) :: .is (.bool false) :: .is _ :: .is _ :: .is _ :: .is _ :: .is _ :: .is _ :: .is _ :: .is _ :: .is _ :: .is _ :: .is _ :: .is _ :: .is _ :: .is _ :: .is _ :: [])
              [[],[(0,28)],[],[(1,29),(2,30)],[(3,31)],[],[(5,33)],[],[(6,34),(7,35)],[(8,36)],[(4,32),(9,37)],[(10,38)],[(11,39)],[(12,40),(11,39)],[(11,39)],[(13,41),(14,42),(11,39)],[(15,43),(11,39)],[(16,44),(11,39)],[(11,39)],[(18,46),(11,39)],[(11,39)],[(19,47),(20,48),(11,39)],[(21,49),(11,39)],[(22,50),(11,39)],[(17,45),(23,51),(11,39)],[(11,39),(24,52)]]
              [(0,28),(1,29),(2,30),(3,31),(4,32),(5,33),(6,34),(7,35),(8,36),(9,37),(10,38),(11,39),(12,40),(13,41),(14,42),(15,43),(16,44),(17,45),(18,46),(19,47),(20,48),(21,49),(22,50),(23,51),(24,52),(25,53)] (by kernel_rfl) (by kernel_rfl)
            case hob =>
              refine ⟨?o0,?o1,?o2,?o3,?o4,?o5,?o6,?o7,?o8,?o9,?o10,?o11,?o12,?o13,?o14,?o15,?o16,?o17,?o18,?o19,?o20,?o21,?o22,?o23,?o24,?o25,trivial⟩
              case o0 => intro W hW;change wpList _ _ _ _ _ _;go_wp2;exact j0 rfl rfl rfl
              case o1 =>
                intro W hW;rintro _ rfl;change wpList _ _ _ _ _ _
                have h:=(hW.cell (p:=⟨g1,1,none⟩) (hl1w)).trans HD1.out
                go_wp2;exact j0 rfl rfl rfl
              case o2 => intro W hW;change wpList _ _ _ _ _ _;go_wp2;exact j0 rfl rfl rfl
              case o3 => intro W hW;rintro _ rfl;rintro _ rfl;change wpList _ _ _ _ _ _;go_wp2;exact j0 rfl rfl rfl
              case o4 =>
                intro W hW;rintro _ rfl;change wpList _ _ _ _ _ _
                have hh:=qW (B:=wr.heap.size) hW (by rw [add_block];omega) HCx.out
                go_must (refine jL rfl 92 (.tmp 31) rfl (ad2.add (i * 8)) rfl (sl.map natV) _ hh Try.underlying92 rfl (by rw [List.length_map,H8x.out];exact lF) ?_)
                clear hh
                go_wp2;exact j0 rfl rfl rfl
              case o5 => intro W hW;change wpList _ _ _ _ _ _;go_wp2;exact j0 rfl rfl rfl
              case o6 =>
                intro W hW;rintro _ rfl;change wpList _ _ _ _ _ _
                have h:=(hW.cell (p:=⟨g2,1,none⟩) (hl2w)).trans HD2.out
                go_wp2;exact j0 rfl rfl rfl
              case o7 => intro W hW;change wpList _ _ _ _ _ _;go_wp2;exact j0 rfl rfl rfl
              case o8 => intro W hW;rintro _ rfl;rintro _ rfl;change wpList _ _ _ _ _ _;go_wp2;exact j0 rfl rfl rfl
              case o9 =>
                intro W hW;rintro _ rfl;change wpList _ _ _ _ _ _
                have hh:=qW (B:=wr.heap.size) hW (by rw [add_block];omega) HCy.out
                go_must (refine jL rfl 92 (.tmp 36) rfl (ae2.add (i * 8)) rfl (tl.map natV) _ hh Try.underlying92 rfl (by rw [List.length_map,H8y.out];exact lF) ?_)
                clear hh
                go_wp2;exact j0 rfl rfl rfl
              case o10 =>
                intro W hW;rintro _ rfl;rintro _ rfl;change wpList _ _ _ _ _ _
                go_must (refine q5 rfl 92 _ (.tmp 32) (.tmp 37) rfl 8 3 .i64 .i64 Try.underlying92 Try.underlying3 l7 uD _ _ HLs.out HLt.out (by rw [← lP];rfl) (by rw [← lP];rfl) _ HB2e.out ?_)
                go_wp2;exact j0 rfl rfl rfl
              case o11 => intro W hW;rintro _ rfl;change wpList _ _ _ _ _ _;go_wp2;exact j0 rfl rfl rfl
              case o12 => intro W hW;rintro _ rfl;change wpList _ _ _ _ _ _;go_wp2;exact j0 rfl rfl rfl
              case o13 =>
                intro W hW;rintro _ rfl;rintro _ rfl;change wpList _ _ _ _ _ _
                have h:=(hW.cell (p:=⟨g1,0,none⟩) (hl1w)).trans HC1.out
                go_wp2;exact j0 rfl rfl rfl
              case o14 => intro W hW;rintro _ rfl;change wpList _ _ _ _ _ _;go_wp2;exact j0 rfl rfl rfl
              case o15 => intro W hW;rintro _ rfl;rintro _ rfl;rintro _ rfl;change wpList _ _ _ _ _ _;go_wp2;exact j0 rfl rfl rfl
              case o16 =>
                intro W hW;rintro _ rfl;rintro _ rfl;change wpList _ _ _ _ _ _
                have h:=(hW.cell (p:=ad.add i) (by rw [add_block];omega)).trans HCX.out
                go_wp2;exact j0 rfl rfl rfl
              case o17 => intro W hW;rintro _ rfl;rintro _ rfl;change wpList _ _ _ _ _ _;go_wp2;exact j0 rfl rfl rfl
              case o18 => intro W hW;rintro _ rfl;change wpList _ _ _ _ _ _;go_wp2;exact j0 rfl rfl rfl
              case o19 =>
                intro W hW;rintro _ rfl;rintro _ rfl;change wpList _ _ _ _ _ _
                have h:=(hW.cell (p:=⟨g2,0,none⟩) (hl2w)).trans HC2.out
                go_wp2;exact j0 rfl rfl rfl
              case o20 => intro W hW;rintro _ rfl;change wpList _ _ _ _ _ _;go_wp2;exact j0 rfl rfl rfl
              case o21 => intro W hW;rintro _ rfl;rintro _ rfl;rintro _ rfl;change wpList _ _ _ _ _ _;go_wp2;exact j0 rfl rfl rfl
              case o22 =>
                intro W hW;rintro _ rfl;rintro _ rfl;change wpList _ _ _ _ _ _
                have h:=(hW.cell (p:=ae.add i) (by rw [add_block];omega)).trans HCY.out
                go_wp2;exact j0 rfl rfl rfl
              case o23 => intro W hW;rintro _ rfl;rintro _ rfl;change wpList _ _ _ _ _ _;go_wp2;exact j0 rfl rfl rfl
              case o24 => intro W hW;rintro _ rfl;rintro _ rfl;rintro _ rfl;change wpList _ _ _ _ _ _;go_wp2;exact j0 rfl rfl rfl
              case o25 => intro W hW;rintro _ rfl;rintro _ rfl;change wpList _ _ _ _ _ _;go_wp2;exact j0 rfl rfl rfl
            case hend =>
              intro W hW;rintro _ rfl;rintro _ rfl;rintro _ rfl;rintro _ rfl;rintro _ rfl;rintro _ rfl;rintro _ rfl;rintro _ rfl;rintro _ rfl;rintro _ rfl;rintro _ rfl;rintro _ rfl;rintro _ rfl;rintro _ rfl;rintro _ rfl;rintro _ rfl;rintro _ rfl;rintro _ rfl;rintro _ rfl;rintro _ rfl;rintro _ rfl;rintro _ rfl;rintro _ rfl;rintro _ rfl;rintro _ rfl;rintro _ rfl
              simp only [given,jF,List.set]
              have HBW:=kp (HB2.out.trans (hW.mono (by have:=HB2.out.size;omega)))
              clear hW
              go_wp2
              go_ret
              exact ⟨jG HE.out,HBW.out⟩
        · have hge : n ≤ i:=by omega
          have HE : Kept (true = b):=kp (by
            refine (HAll.out.2 ?_).symm
            have h:=HTk.out
            rwa [List.take_of_length_le (by rw [HQl.out,HN.out];exact hge),List.take_of_length_le (by rw [HRl.out,HM.out];exact hge)] at h)
          clear hlt
          go_wp2
          go_ret
          exact ⟨jG HE.out,HW2.out.trans (HBl.out.mono hs2)⟩
  · have hne : ((n : Int) != (m : Int)) = true:=by rw [bne_iff_ne];omega
    have HE : Kept (false = b):=kp (by
      cases b
      · rfl
      · have h:=congrArg (fun c => M.Cf.ths c |>.length) (HB.out.1 rfl)
        have h2 : q.cf.ths.length = r.cf.ths.length:=h
        rw [HQl.out,HRl.out,HN.out,HM.out] at h2
        exact absurd h2 hnm)
    clear hnm
    go_enter Try.func31,Try.ntmps31
    go_wp2_with (first
      | ((with_reducible refine j2 rfl 79 (.tmp 0) rfl (rcC q) rfl ?_);intro g1 w1 hg1 hk1 hw1;have HK1:=kp hk1;have HW1:=kp hw1;have hs1:=hw1.size;have hl1:=hk1.lt;clear hk1 hw1)
      | ((with_reducible refine j2 rfl 79 (.tmp 1) rfl (rcC r) rfl ?_);intro g2 w2 hg2 hk2 hw2;have HK2:=kp hk2;have HK12:=kp (HK1.out.below hw2 hl1);have HW2:=kp (HW1.out.trans (hw2.mono hs1));have hs2:=HW2.out.size;have hl12:=HK12.out.lt;have hl2:=hk2.lt
         have hc1:=HK12.out.cell 0;have hc2:=HK2.out.cell 0
         rw [HEq.out,List.getElem?_cons_zero] at hc1
         rw [HEr.out,List.getElem?_cons_zero] at hc2
         have HR1 : Kept (w2.rangeAt g1 2 (q.ow.map natV)):=kp (by have h:=HK12.out.range 2 16;unfold rcC at h;rw [List.drop_succ_cons,List.drop_succ_cons,List.drop_zero,List.take_of_length_le (by rw [List.length_map,HQ16.out];exact Nat.le_refl _)] at h;exact h)
         have HR2 : Kept (w2.rangeAt g2 2 (r.ow.map natV)):=kp (by have h:=HK2.out.range 2 16;unfold rcC at h;rw [List.drop_succ_cons,List.drop_succ_cons,List.drop_zero,List.take_of_length_le (by rw [List.length_map,HR16.out];exact Nat.le_refl _)] at h;exact h)
         clear hk2 hw2))
    go_ret
    exact ⟨jG HE.out,HW2.out⟩
end Go.Proofs.Ytnaomfmmkhgbhaa
