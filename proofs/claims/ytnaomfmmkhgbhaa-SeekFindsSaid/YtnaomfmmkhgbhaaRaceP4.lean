/- The program's races, walked: First. -/
import Derived.Test.YtnaomfmmkhgbhaaPk14
namespace Go.Proofs.Ytnaomfmmkhgbhaa
open Go.RowKit
theorem Recs.cut3 {w : World} {B n : Nat} {ad : Addr} {l : List Tc} (h : Recs 3 tcV w B (some ad) n l) {k : Nat} (hk : k ≤ n) : Recs 3 tcV w B (some (ad.add (k * 3))) (n - k) (l.drop k) :=
  ⟨by rw [List.length_drop,h.len],fun h0 => by
    obtain ⟨ad',e,hb,hc⟩:=h.cells (by omega)
    cases e
    refine ⟨_,rfl,by rw [add_block];exact hb,fun j x hx i hi => ?_⟩
    rw [List.getElem?_drop] at hx
    rw [add_add,show k * 3 + (j * 3 + i) = (k + j) * 3 + i by omega]
    exact hc (k + j) x hx i hi⟩
theorem LC {l : List Tc} {i : Nat} {x : Tc} (h : ∀ (i' j' : Nat) x' y',i' < j' → l[i']? = some x' → l[j']? = some y' → i' < i → races x' y' = false) (hx : l[i]? = some x) (hall : ∀ y ∈ l.drop (i + 1),races x y = false) :
    ∀ (i' j' : Nat) x' y',i' < j' → l[i']? = some x' → l[j']? = some y' → i' < i + 1 → races x' y' = false:=by
  intro i' j' x' y' h1 h2 h3 h4
  by_cases e : i' = i
  · subst e
    rw [hx] at h2
    cases h2
    refine hall y' (List.mem_of_getElem? (i:=j' - (i' + 1)) ?_)
    rw [List.getElem?_drop,show i' + 1 + (j' - (i' + 1)) = j' by omega]
    exact h3
  · exact h i' j' x' y' h1 h2 h3 (by omega)
theorem vR {fn : Func} {t u v z : Tmp} (h : fn.results = #[.tmp t,.tmp u,.tmp v,.tmp z]) (tmps : Array Value) (P : Program) (w : World) :
    (results fn tmps).run P w = .ok (.tuple #[tmps.getD t undef,tmps.getD u undef,tmps.getD v undef,tmps.getD z undef]) w:=by
  simp [results,h]
def FirstPost (p : Pg) (cf : M.Cf) (w : World) : Ending → World → Prop:=fun e w' => ∃ (x y z : Int) (b : Bool),e = .returned (.tuple #[.int .i64 x,.int .i64 y,.int .i64 z,.bool b]) ∧ M.FirstIs p cf x y z (if b = true then 1 else 0) ∧ Below w.heap.size w w'
set_option maxRecDepth 100000 in
set_option maxHeartbeats 3200000 in
theorem JT (B : Nat) (p : Pg) (hf : Fine p) (q : Pc) (w : World) (hp : p.Ok w B) (hq : q.Ok w B) (hg : M.Good p q.cf) (hB : B ≤ w.heap.size) :
    Calls Try.prog 21 #[pgA p,pcA q] w (FirstPost p q.cf w):=by
  unfold FirstPost
  have h8 : q.len ≤ 8:=by rw [← hq.len];exact hg.most
  have HQ17:=kp (jT hg.owns)
  have HP:=kp hp;have HQ:=kp hq;have HG:=kp hg;have HF:=kp hf
  have HLen:=kp hq.len
  clear hp hq hg hf
  rw [qD,jI]
  go_enter Try.func21,Try.ntmps21
  go_wp2_with (first
    | ((with_reducible refine j2 rfl 24 (.tmp 0) rfl (pgC p) rfl ?_);intro g1 w1 hg1 hk1 hw1;have HK1:=kp hk1;have HW1:=kp hw1;have hs1:=hw1.size;have hl1:=hk1.lt;clear hk1 hw1)
    | ((with_reducible refine j2 rfl 46 (.tmp 1) rfl (pcC q) rfl ?_);intro g2 w2 hg2 hk2 hw2;have HK2:=kp hk2;have HK12:=kp (HK1.out.below hw2 hl1);have HW2:=kp (HW1.out.trans (hw2.mono hs1));have hs2:=HW2.out.size;have hl12:=HK12.out.lt;have hl2:=hk2.lt;clear hk2 hw2)
    | ((with_reducible show Sl 12);go_must (refine j1 rfl 24 (.tmp 2) rfl g1 rfl _ (pgC p) _ HK12.out Try.underlying24 rfl jD ?_))
    | ((with_reducible show Sl 13);go_must (refine j1 rfl 46 (.tmp 3) rfl g2 rfl _ (pcC q) _ HK2.out Try.underlying46 rfl (by rw [HQ17.out];exact jA) ?_))
    | (go_at_call 43;fail))
  refine (QM B p HF.out q w2 (HP.out.below (HW2.out.mono hB)) (HQ.out.below (HW2.out.mono hB)) HG.out (by omega)).mono ?_
  rintro e w3 ⟨v,rfl,hown,hb3⟩
  obtain ⟨n,hn⟩ : ∃ n,(touchesTo p q.cf q.len).length = n:=⟨_,rfl⟩
  obtain ⟨A,c,rfl,hnc,hcm,hrec⟩:=QC hown hn
  obtain ⟨l,hl⟩ : ∃ l,touchesTo p q.cf q.len = l:=⟨_,rfl⟩
  have hn8 : n ≤ 8:=by have:=yY p q.cf q.len;omega
  rw [hl] at hrec
  have HRec:=kp hrec;have HL:=kp hl
  have HW3:=kp (HW2.out.trans (hb3.mono hs2))
  have hs3:=HW3.out.size
  unfold maxLen at hcm
  clear hown hb3 hn hrec hl
  go_wp2
  go_loopw [17] (fun v17 wr => ∃ i : Nat,i ≤ n ∧ v17 = .int .i64 i ∧ (∀ (i' j' : Nat) x' y',i' < j' → l[i']? = some x' → l[j']? = some y' → i' < i → races x' y' = false) ∧ Below w3.heap.size w3 wr) (fun v17 _ => n - (intOf v17).toNat)
  case atStart => exact ⟨0,by omega,rfl,(fun _ _ _ _ _ _ _ h => by omega),Below.refl _ _⟩
  case round =>
    obtain ⟨i,hi,rfl,hbef,hbw⟩:=hrel
    have HBef:=kp hbef;have HBw:=kp hbw
    have hsz:=hbw.size
    have HRec2:=kp ((HRec.out.below hbw).more hsz)
    have HBW:=kp (HW3.out.trans (hbw.mono hs3))
    clear hbef hbw
    by_cases hlt : i < n
    · obtain ⟨ad,x,rfl,hab,hx,hat⟩:=tc_at HRec2.out hlt
      have HAt:=kp hat;have HX:=kp hx
      clear hat hx
      by_cases hci : c = i + 1
      · subst hci
        have HAll : Kept (∀ y ∈ l.drop (i + 1),races x y = false):=kp (by rw [List.drop_of_length_le (by have:=HRec2.out.len;omega)];intro y hy;cases hy)
        go_wp2_with (first
          | (go_at_call 44;fail))
        refine (JR wr.heap.size (ad.add (i * 3)) x (some ad) 0 0 [] wr HAt.out (by rw [add_block];exact hab) ⟨rfl,fun h => by omega⟩ (by omega) (Nat.le_refl _)).mono ?_
        rintro e w5 ⟨vr,rfl,hvr,hb5⟩
        have HB5:=kp (HBw.out.trans (hb5.mono hsz))
        have hvn : vr = .pointer none:=by
          rcases hvr with ⟨_,j,y,_,hy,_⟩ | h
          · simp at hy
          · exact h.1
        subst hvn
        clear hb5 hvr
        go_wp2
        go_roundw
        case rel => exact ⟨i + 1,by omega,by go_num,LC HBef.out HX.out HAll.out,HB5.out⟩
        case measure => simp [intOf];omega
      · have HCut:=kp (HRec2.out.cut3 (show i + 1 ≤ n by omega))
        go_wp2_with (first
          | (go_at_call 44;fail))
        refine (JR wr.heap.size (ad.add (i * 3)) x (some (ad.add ((i + 1) * 3))) (n - (i + 1)) (c - (i + 1)) _ wr HAt.out (by rw [add_block];exact hab) HCut.out (by omega) (Nat.le_refl _)).mono ?_
        rintro e w5 ⟨vr,rfl,hvr,hb5⟩
        have HB5:=kp (HBw.out.trans (hb5.mono hsz))
        have HRec5:=kp (HRec2.out.below hb5)
        have HAt5:=kp (HAt.out.below hb5 (by rw [add_block];exact hab))
        have HVr:=kp hvr
        clear hb5 hvr
        rcases HVr.out with ⟨ad',j,y,hA',hy,hrr,hmin,rfl⟩ | ⟨rfl,hall⟩
        · obtain rfl : ad.add ((i + 1) * 3) = ad':=Option.some.inj hA'
          rw [List.getElem?_drop] at hy
          have HFst : Kept (M.FirstIs p q.cf (x.who : Int) (y.who : Int) x.glob 1):=kp (first_some HLen.out (show i < i + 1 + j by omega) (by rw [HL.out];exact HX.out) (by rw [HL.out];exact hy) hrr (by
            rw [HL.out]
            intro i' j' x' y' h1 h2 h3 h4
            rcases h4 with h4 | ⟨h4,h5⟩
            · exact HBef.out i' j' x' y' h1 h2 h3 h4
            · subst h4
              rw [HX.out] at h2
              cases h2
              refine hmin (j' - (i' + 1)) y' (by omega) ?_
              rw [List.getElem?_drop,show i' + 1 + (j' - (i' + 1)) = j' by omega]
              exact h3))
          obtain ⟨ad2,y',e2,_,hy',hyat⟩:=tc_at HRec5.out (show i + 1 + j < n by rw [← HRec5.out.len];exact (List.getElem?_eq_some_iff.1 hy).1)
          obtain rfl : ad = ad2:=Option.some.inj e2
          obtain rfl : y = y':=by rw [hy] at hy';exact Option.some.inj hy'
          have hx0:=HAt5.out.who;have hx1:=HAt5.out.glob
          have hy0:=hyat.who
          have ea : (ad.add ((i + 1) * 3)).add (j * 3) = ad.add ((i + 1 + j) * 3):=by rw [add_add,show (i + 1) * 3 + j * 3 = (i + 1 + j) * 3 by omega]
          rw [ea]
          obtain ⟨bd,hbd⟩ : ∃ bd,ad.add ((i + 1 + j) * 3) = bd:=⟨_,rfl⟩
          obtain ⟨cd,hcd⟩ : ∃ cd,ad.add (i * 3) = cd:=⟨_,rfl⟩
          rw [hbd] at hy0 ⊢
          rw [hcd] at hx0 hx1 ⊢
          obtain ⟨s,hs⟩ : ∃ s : Int,(x.who : Int) = s:=⟨_,rfl⟩
          obtain ⟨t,ht⟩ : ∃ t : Int,(y.who : Int) = t:=⟨_,rfl⟩
          obtain ⟨g,hgl⟩ : ∃ g : Int,x.glob = g:=⟨_,rfl⟩
          rw [hs,ht,hgl] at HFst
          rw [hs] at hx0
          rw [ht] at hy0
          rw [hgl] at hx1
          have HB6:=kp (HW3.out.trans (HB5.out.mono hs3))
          clear HVr hA' hy hrr hmin hy' hyat e2 ea hbd hcd hs ht hgl
          go_wp2
          go_quiet (fail)
          go_wp2
          (try simp only [Exit.inBlock,Exit.then])
          refine bodyPost_ret (vR rfl _ _ _) rfl ?_
          exact ⟨s,t,g,true,rfl,HFst.out,below_drewN HB6.out _⟩
        · have HAll:=kp hall
          clear hall HVr
          go_wp2
          go_roundw
          case rel => exact ⟨i + 1,by omega,by go_num,LC HBef.out HX.out HAll.out,HB5.out⟩
          case measure => simp [intOf];omega
    · have hge : n ≤ i:=by omega
      have HFst : Kept (M.FirstIs p q.cf 0 0 0 0):=kp (first_none HLen.out (by
        rw [HL.out]
        intro i' j' x' y' h1 h2 h3
        refine HBef.out i' j' x' y' h1 h2 h3 ?_
        have:=(List.getElem?_eq_some_iff.1 h2).1
        have:=HRec.out.len
        omega))
      clear hlt
      go_wp2
      (try simp only [Exit.inBlock,Exit.then])
      refine bodyPost_ret (vR rfl _ _ _) rfl ?_
      exact ⟨0,0,0,false,rfl,HFst.out,HBW.out⟩
end Go.Proofs.Ytnaomfmmkhgbhaa
