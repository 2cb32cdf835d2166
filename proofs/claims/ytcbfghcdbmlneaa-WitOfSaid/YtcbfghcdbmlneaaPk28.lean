/- WitRace, RaceP4, WitP6. -/
import Derived.Test.YtcbfghcdbmlneaaPk16
import Derived.Test.YtcbfghcdbmlneaaPk8
import Derived.Test.YtcbfghcdbmlneaaPk5
import Derived.Test.YtcbfghcdbmlneaaPk17
import Derived.Test.YtcbfghcdbmlneaaPk21
import Derived.Test.YtcbfghcdbmlneaaPk20
namespace Go.Proofs.Ytcbfghcdbmlneaa.T
theorem may_glob {p : Pg} {x : Nd} {nodes : Nat} (h : Q.may p.g p.l p.s p.len x nodes = true) (hk : x.kind = 1 ∨ x.kind = 2) : 0 ≤ x.arg ∧ x.arg < p.g:=by
  unfold Q.may at h
  simp only [Bool.and_eq_true,decide_eq_true_eq,List.all_eq_true,List.mem_range] at h
  have a0:=h.2 0 (by omega)
  simp only [Q.fields,List.getD_cons_zero] at a0
  have hrow : Q.row x.kind = Q.rows.getD x.kind.toNat []:=by unfold Q.row;rw [if_neg (by omega)]
  rw [hrow] at a0
  rcases hk with e | e <;> rw [e] at a0 <;> simp [Q.rows,Q.size] at a0 <;> omega
theorem acc_glob {p : Pg} (hf : Fine p) {c : M.Cf} (hg : M.Good p c) {t : Nat} (h : 0 < (M.acc p c (t : Int)).2) : 0 ≤ (M.acc p c (t : Int)).1 ∧ (M.acc p c (t : Int)).1 ≤ 15:=by
  obtain ⟨h1,h2,h3,_⟩:=M.acc_pos h
  rw [M.lives_nat] at h1
  rw [Int.toNat_natCast] at h2 h3
  obtain ⟨fn,k1,_,k3⟩:=M.node_is hg h1
  have h4:=may_glob (M.fine_node hf k1 k3) h2
  have h5:=hf.counts.g
  rw [h3]
  omega
theorem first_ok {p : Pg} (hf : Fine p) {c : M.Cf} (hg : M.Good p c) {x y z : Int} (h : M.FirstIs p c x y z 1) : okN x y z = true ∧ M.pair p c x y z = true:=by
  rcases h with ⟨_,a,b,rfl,rfl,rfl,hab,hb,hp,_⟩ | ⟨e,_⟩
  · have hp2 : M.pair p c (a : Int) (b : Int) (M.acc p c (a : Int)).1 = true:=by
      unfold M.NoPair at hp
      cases hq : M.pair p c (a : Int) (b : Int) (M.acc p c (a : Int)).1 with
      | true => rfl
      | false => exact absurd hq hp
    have h8 : c.ths.length ≤ 8:=hg.most
    have h1:=acc_glob hf hg (M.pair_is.1 hp2).2.1
    exact ⟨okN_iff.2 ⟨by omega,by omega,by omega,by omega,by omega,h1.1,h1.2⟩,hp2⟩
  · cases e
theorem first_glob {p : Pg} (hf : Fine p) {c : M.Cf} (hg : M.Good p c) {x y z h : Int} (hh : M.FirstIs p c x y z h) : I64 x ∧ I64 y ∧ I64 z:=by
  have h8 : c.ths.length ≤ 8:=hg.most
  rcases hh with ⟨rfl,hh⟩ | ⟨rfl,rfl,rfl,rfl,_⟩
  · obtain ⟨k1,k2,k3,k4,_,k5,k6⟩:=okN_iff.1 (first_ok hf hg (.inl ⟨rfl,hh⟩)).1
    unfold I64;omega
  · unfold I64;omega
end Go.Proofs.Ytcbfghcdbmlneaa.T
namespace Go.Proofs.Ytcbfghcdbmlneaa
open Go.RowKit
theorem Recs.cut3 {w : World} {B n : Nat} {ad : Addr} {l : List Tc} (h : Recs 3 tcV w B (some ad) n l) {k : Nat} (hk : k ≤ n) : Recs 3 tcV w B (some (ad.add (k * 3))) (n - k) (l.drop k) :=
  ⟨by rw [List.length_drop,h.len],fun h0 => by
    obtain ⟨ad',e,hb,hc⟩:=h.cells (by omega)
    cases e
    refine ⟨_,rfl,by rw [add_block];exact hb,fun j x hx i hi => ?_⟩
    rw [List.getElem?_drop] at hx
    rw [add_add,show k * 3 + (j * 3 + i) = (k + j) * 3 + i by omega]
    exact hc (k + j) x hx i hi⟩
theorem QL {l : List Tc} {i : Nat} {x : Tc} (h : ∀ (i' j' : Nat) x' y',i' < j' → l[i']? = some x' → l[j']? = some y' → i' < i → races x' y' = false) (hx : l[i]? = some x) (hall : ∀ y ∈ l.drop (i + 1),races x y = false) :
    ∀ (i' j' : Nat) x' y',i' < j' → l[i']? = some x' → l[j']? = some y' → i' < i + 1 → races x' y' = false:=by
  intro i' j' x' y' h1 h2 h3 h4
  by_cases e : i' = i
  · subst e
    rw [hx] at h2
    cases h2
    refine hall y' (List.mem_of_getElem? (i:=j' - (i' + 1)) ?_)
    rw [List.getElem?_drop,show i' + 1 + (j' - (i' + 1)) = j' by omega]
    exact h3
  · exact h i' j' x' y' h1 h2 h3 (by omega)
theorem uS {fn : Func} {t u v z : Tmp} (h : fn.results = #[.tmp t,.tmp u,.tmp v,.tmp z]) (tmps : Array Value) (P : Program) (w : World) :
    (results fn tmps).run P w = .ok (.tuple #[tmps.getD t undef,tmps.getD u undef,tmps.getD v undef,tmps.getD z undef]) w:=by
  simp [results,h]
def FirstPost (p : Pg) (cf : M.Cf) (w : World) : Ending → World → Prop:=fun e w' => ∃ (x y z : Int) (b : Bool),e = .returned (.tuple #[.int .i64 x,.int .i64 y,.int .i64 z,.bool b]) ∧ M.FirstIs p cf x y z (if b = true then 1 else 0) ∧ Below w.heap.size w w'
set_option maxRecDepth 100000 in
set_option maxHeartbeats 3200000 in
theorem Q4 (B : Nat) (p : Pg) (hf : Fine p) (q : Pc) (w : World) (hp : p.Ok w B) (hq : q.Ok w B) (hg : M.Good p q.cf) (hB : B ≤ w.heap.size) :
    Calls Try.prog 46 #[pgA p,pcA q] w (FirstPost p q.cf w):=by
  unfold FirstPost
  have h8 : q.len ≤ 8:=by rw [← hq.len];exact hg.most
  have HQ17:=kp (jW hg.owns)
  have HP:=kp hp;have HQ:=kp hq;have HG:=kp hg;have HF:=kp hf
  have HLen:=kp hq.len
  clear hp hq hg hf
  rw [qS,jL]
  go_enter Try.func46,Try.ntmps46
  go_wp2_with (first
    | ((with_reducible refine j6 rfl 46 (.tmp 0) rfl (pgC p) rfl ?_);intro g1 w1 hg1 hk1 hw1;have HK1:=kp hk1;have HW1:=kp hw1;have hs1:=hw1.size;have hl1:=hk1.lt;clear hk1 hw1)
    | ((with_reducible refine j6 rfl 91 (.tmp 1) rfl (pcC q) rfl ?_);intro g2 w2 hg2 hk2 hw2;have HK2:=kp hk2;have HK12:=kp (HK1.out.below hw2 hl1);have HW2:=kp (HW1.out.trans (hw2.mono hs1));have hs2:=HW2.out.size;have hl12:=HK12.out.lt;have hl2:=hk2.lt;clear hk2 hw2)
    | ((with_reducible show Sl 12);go_must (refine j4 rfl 46 (.tmp 2) rfl g1 rfl _ (pgC p) _ HK12.out Try.underlying46 rfl jF ?_))
    | ((with_reducible show Sl 13);go_must (refine j4 rfl 91 (.tmp 3) rfl g2 rfl _ (pcC q) _ HK2.out Try.underlying91 rfl (by rw [HQ17.out];exact jC) ?_))
    | (go_at_call 65;fail))
  refine (uX B p HF.out q w2 (HP.out.below (HW2.out.mono hB)) (HQ.out.below (HW2.out.mono hB)) HG.out (by omega)).mono ?_
  rintro e w3 ⟨v,rfl,hown,hb3⟩
  obtain ⟨n,hn⟩ : ∃ n,(touchesTo p q.cf q.len).length = n:=⟨_,rfl⟩
  obtain ⟨A,c,rfl,hnc,hcm,hrec⟩:=uO hown hn
  obtain ⟨l,hl⟩ : ∃ l,touchesTo p q.cf q.len = l:=⟨_,rfl⟩
  have hn8 : n ≤ 8:=by have:=yG p q.cf q.len;omega
  rw [hl] at hrec
  have HRec:=kp hrec;have HL:=kp hl
  have HW3:=kp (HW2.out.trans (hb3.mono hs2))
  have hs3:=HW3.out.size
  unfold maxLen at hcm
  clear hown hb3 hn hrec hl
  go_wp2
  go_loopw [17] (fun v17 wr => ∃ i : Nat,i ≤ n ∧ v17 = .int .i64 i ∧ (∀ (i' j' : Nat) x' y',i' < j' → l[i']? = some x' → l[j']? = some y' → i' < i → races x' y' = false) ∧ Below w3.heap.size w3 wr) (fun v17 _ => n - (intOf v17).toNat)
  case atStart => exact ⟨0,by omega,rfl,(fun _ _ _ _ _ _ _ h => by omega),Below.refl _ _⟩
  case round =>
    obtain ⟨i,hi,rfl,hbef,hbw⟩:=hrel
    have HBef:=kp hbef;have HBw:=kp hbw
    have hsz:=hbw.size
    have HRec2:=kp ((HRec.out.below hbw).more hsz)
    have HBW:=kp (HW3.out.trans (hbw.mono hs3))
    clear hbef hbw
    by_cases hlt : i < n
    · obtain ⟨ad,x,rfl,hab,hx,hat⟩:=X1 HRec2.out hlt
      have HAt:=kp hat;have HX:=kp hx
      clear hat hx
      by_cases hci : c = i + 1
      · subst hci
        have HAll : Kept (∀ y ∈ l.drop (i + 1),races x y = false):=kp (by rw [List.drop_of_length_le (by have:=HRec2.out.len;omega)];intro y hy;cases hy)
        go_wp2_with (first
          | (go_at_call 70;fail))
        refine (Q3 wr.heap.size (ad.add (i * 3)) x (some ad) 0 0 [] wr HAt.out (by rw [add_block];exact hab) ⟨rfl,fun h => by omega⟩ (by omega) (Nat.le_refl _)).mono ?_
        rintro e w5 ⟨vr,rfl,hvr,hb5⟩
        have HB5:=kp (HBw.out.trans (hb5.mono hsz))
        have hvn : vr = .pointer none:=by
          rcases hvr with ⟨_,j,y,_,hy,_⟩ | h
          · simp at hy
          · exact h.1
        subst hvn
        clear hb5 hvr
        go_wp2
        go_roundw
        case rel => exact ⟨i + 1,by omega,by go_num,QL HBef.out HX.out HAll.out,HB5.out⟩
        case measure => simp [intOf];omega
      · have HCut:=kp (HRec2.out.cut3 (show i + 1 ≤ n by omega))
        go_wp2_with (first
          | (go_at_call 70;fail))
        refine (Q3 wr.heap.size (ad.add (i * 3)) x (some (ad.add ((i + 1) * 3))) (n - (i + 1)) (c - (i + 1)) _ wr HAt.out (by rw [add_block];exact hab) HCut.out (by omega) (Nat.le_refl _)).mono ?_
        rintro e w5 ⟨vr,rfl,hvr,hb5⟩
        have HB5:=kp (HBw.out.trans (hb5.mono hsz))
        have HRec5:=kp (HRec2.out.below hb5)
        have HAt5:=kp (HAt.out.below hb5 (by rw [add_block];exact hab))
        have HVr:=kp hvr
        clear hb5 hvr
        rcases HVr.out with ⟨ad',j,y,hA',hy,hrr,hmin,rfl⟩ | ⟨rfl,hall⟩
        · obtain rfl : ad.add ((i + 1) * 3) = ad':=Option.some.inj hA'
          rw [List.getElem?_drop] at hy
          have HFst : Kept (M.FirstIs p q.cf (x.who : Int) (y.who : Int) x.glob 1):=kp (first_some HLen.out (show i < i + 1 + j by omega) (by rw [HL.out];exact HX.out) (by rw [HL.out];exact hy) hrr (by
            rw [HL.out]
            intro i' j' x' y' h1 h2 h3 h4
            rcases h4 with h4 | ⟨h4,h5⟩
            · exact HBef.out i' j' x' y' h1 h2 h3 h4
            · subst h4
              rw [HX.out] at h2
              cases h2
              refine hmin (j' - (i' + 1)) y' (by omega) ?_
              rw [List.getElem?_drop,show i' + 1 + (j' - (i' + 1)) = j' by omega]
              exact h3))
          obtain ⟨ad2,y',e2,_,hy',hyat⟩:=X1 HRec5.out (show i + 1 + j < n by rw [← HRec5.out.len];exact (List.getElem?_eq_some_iff.1 hy).1)
          obtain rfl : ad = ad2:=Option.some.inj e2
          obtain rfl : y = y':=by rw [hy] at hy';exact Option.some.inj hy'
          have hx0:=HAt5.out.who;have hx1:=HAt5.out.glob
          have hy0:=hyat.who
          have ea : (ad.add ((i + 1) * 3)).add (j * 3) = ad.add ((i + 1 + j) * 3):=by rw [add_add,show (i + 1) * 3 + j * 3 = (i + 1 + j) * 3 by omega]
          rw [ea]
          obtain ⟨bd,hbd⟩ : ∃ bd,ad.add ((i + 1 + j) * 3) = bd:=⟨_,rfl⟩
          obtain ⟨cd,hcd⟩ : ∃ cd,ad.add (i * 3) = cd:=⟨_,rfl⟩
          rw [hbd] at hy0 ⊢
          rw [hcd] at hx0 hx1 ⊢
          obtain ⟨s,hs⟩ : ∃ s : Int,(x.who : Int) = s:=⟨_,rfl⟩
          obtain ⟨t,ht⟩ : ∃ t : Int,(y.who : Int) = t:=⟨_,rfl⟩
          obtain ⟨g,hgl⟩ : ∃ g : Int,x.glob = g:=⟨_,rfl⟩
          rw [hs,ht,hgl] at HFst
          rw [hs] at hx0
          rw [ht] at hy0
          rw [hgl] at hx1
          have HB6:=kp (HW3.out.trans (HB5.out.mono hs3))
          clear HVr hA' hy hrr hmin hy' hyat e2 ea hbd hcd hs ht hgl
          go_wp2
          go_quiet (fail)
          go_wp2
          (try simp only [Exit.inBlock,Exit.then])
          refine bodyPost_ret (uS rfl _ _ _) rfl ?_
          exact ⟨s,t,g,true,rfl,HFst.out,below_drewN HB6.out _⟩
        · have HAll:=kp hall
          clear hall HVr
          go_wp2
          go_roundw
          case rel => exact ⟨i + 1,by omega,by go_num,QL HBef.out HX.out HAll.out,HB5.out⟩
          case measure => simp [intOf];omega
    · have hge : n ≤ i:=by omega
      have HFst : Kept (M.FirstIs p q.cf 0 0 0 0):=kp (first_none HLen.out (by
        rw [HL.out]
        intro i' j' x' y' h1 h2 h3
        refine HBef.out i' j' x' y' h1 h2 h3 ?_
        have:=(List.getElem?_eq_some_iff.1 h2).1
        have:=HRec.out.len
        omega))
      clear hlt
      go_wp2
      (try simp only [Exit.inBlock,Exit.then])
      refine bodyPost_ret (uS rfl _ _ _) rfl ?_
      exact ⟨0,0,0,false,rfl,HFst.out,HBW.out⟩
def OfPost (p : Pg) (n : Nat) (z : List (Int × Bool)) (cc : Nat) (w : World) : Ending → World → Prop:=fun e w' => ∃ (x : Wt) (ok : Bool),e = .returned (.tuple #[wtA x,.bool ok]) ∧ x.Ok w' w'.heap.size ∧ (ok = false → x = wtNone) ∧
  (((∃ y ∈ z,¬ M.okP y) ∨ cc ≠ 0) → ok = false) ∧ ((∀ y ∈ z,M.okP y) → cc = 0 → M.FirstIs p (runTo p z n) x.a x.b x.g (if ok = true then 1 else 0)) ∧ (ok = true → x.z = z ∧ x.len = n) ∧ Below w.heap.size w w'
theorem own_neR {α : Type} {sz : Nat} {f : α → Nat → Value} {w : World} {L g : Nat} {e : TypeId} {v : Value} {l : List α} (h : OwnR sz f w L e v l) (hg : g < L) : v.ownBlock = none ∨ v.ownBlock ≠ some g:=by
  rcases hob : v.ownBlock with _ | k
  · exact .inl rfl
  · exact .inr (by have:=(h.block k hob).1;intro e;cases e;omega)
set_option maxRecDepth 1000000 in
set_option maxHeartbeats 8000000 in
theorem wi_of (B : Nat) (p : Pg) (A : Option Addr) (n c : Nat) (z : List (Int × Bool)) (w : World) (hp : p.Ok w B) (hz : Picks w B A n z) (hn : n ≤ 2000) (hB : B ≤ w.heap.size) (ca cb : Int) (cc : Nat) (hcc : Q.check p = (ca,cb,cc)) :
    Calls Try.prog 21 #[pgA p,.slice A n c] w (OfPost p n z cc w):=by
  have HP:=kp hp;have HZ:=kp hz;have HCc:=kp hcc;have HLn:=kp hz.1.len
  clear hp hz hcc
  rw [jL]
  go_enter Try.func21,Try.ntmps21
  go_wp2_with (first
    | ((with_reducible refine j6 rfl 46 (.tmp 0) rfl (pgC p) rfl ?_);intro g1 w1 hg1 hk1 hw1;have HK1:=kp hk1;have HW1:=kp hw1;have hs1:=hw1.size;have hl1:=hk1.lt;clear hg1 hk1 hw1)
    | ((with_reducible show Sl 4);go_must (refine j7 rfl 24 rfl _ lW ?_);intro gr w2 hgr hk2 hw2
       have HR2 : Kept (Blk w2 gr 24 (wtC wtNone)):=kp hk2;have HK2:=kp (HK1.out.below hw2 hl1);have HW2:=kp (HW1.out.trans (hw2.mono hs1))
       have hs2:=HW2.out.size;have hl2:=HK2.out.lt;have hr2:=hk2.lt
       clear hk2 hw2)
    | (go_at_call 25;fail))
  refine (sc_put B A n c z w2 (HZ.out.keep fun q hq => HW2.out.cell (by omega)) (by omega) (by omega)).mono ?_
  rintro e w3 ⟨h,hb3⟩
  have HW3:=kp (HW2.out.trans (hb3.mono hs2));have HK3:=kp (HK2.out.below hb3 hl2);have HR3:=kp (HR2.out.below hb3 hr2)
  have hs3:=HW3.out.size;have hl3:=HK3.out.lt;have hr3:=HR3.out.lt
  clear hb3
  rcases h with ⟨h4,_⟩ | ⟨_,hbad,rfl⟩ | ⟨_,hok,gt,rfl,_,_⟩
  · omega
  · have HBad:=kp hbad
    clear hbad
    go_wp2_with (first
      | ((with_reducible show Sn);(refine j5 rfl 24 (.tmp 4) (.tmp 21) rfl gr (wtC wtNone) rfl rfl _ _ HR3.out jD rfl (jU wtNone) ?_);intro wa hka hga hza
         have HKa:=kp hka;have HWa:=kp (HW3.out.grown hga (by have:=HW3.out.size;omega) (by intro k e;cases e;omega));have HGa:=kp hga
         clear hka hga)
      | fail)
    exact bodyPost_ret (lJ (P:=Try.prog) (fn:=Try.f21) rfl _ _ gr 24 _ _ _ rfl rfl HKa.out Try.underlying24 rfl jD) rfl ⟨wtNone,false,rfl,lF _ _,fun _ => rfl,fun _ => rfl,fun h => absurd h (by obtain ⟨y,hy,hno⟩:=HBad.out;exact fun h => hno (h y hy)),(by intro h;cases h),HWa.out⟩
  have HOk:=kp hok
  have HPg3:=kp (HP.out.below (HW3.out.mono hB));have HZ3 : Kept (Picks w3 B A n z):=kp (HZ.out.keep fun q hq => HW3.out.cell (by omega))
  clear hok
  go_wp2_with (first
    | ((with_reducible show Sl 23);go_must (refine j4 rfl 46 (.tmp 2) rfl g1 rfl _ (pgC p) _ HK3.out Try.underlying46 rfl jF ?_))
    | (go_at_call 41;fail))
  rw [← jL]
  refine (sc_run B p A n c z w3 HPg3.out HZ3.out hn (by omega) ca cb cc HCc.out).mono ?_
  unfold RunPost
  rintro e w4 ⟨q,rfl,hm4,ho4,hq0,hqc,hb4⟩
  have HM4:=kp hm4;have HQc:=kp hqc;have HQ17:=kp (jW ho4)
  have HW4:=kp (HW3.out.trans (hb4.mono hs3));have HK4:=kp (HK3.out.below hb4 hl3);have HR4:=kp (HR3.out.below hb4 hr3)
  have hs4:=HW4.out.size;have hl4:=HK4.out.lt;have hr4:=HR4.out.lt
  clear hm4 ho4 hq0 hqc hb4
  by_cases hz : cc = 0
  rotate_left
  · have hb1 : ((cc : Int) != 0) = true:=by rw [bne_iff_ne];omega
    have HNz:=kp hz
    clear hz
    go_wp2_with (first
      | ((with_reducible show Sl 8);go_must (refine j7 rfl 91 rfl _ l7 ?_);intro gN w5 hgN hk5 hw5
         have HN5:=kp hk5;have HW5:=kp (HW4.out.trans (hw5.mono hs4));have HK5:=kp (HK4.out.below hw5 hl4);have HR5:=kp (HR4.out.below hw5 hr4);have HM5:=kp (HM4.out.below hw5 (Nat.le_refl _))
         have hs5:=HW5.out.size;have hs45:=hw5.size
         clear hk5 hw5)
      | ((with_reducible show Sn);(refine j5 rfl 91 (.tmp 8) (.tmp 26) rfl gN (pcC q) rfl rfl _ _ HN5.out (by rw [HQ17.out];exact jC) (by rw [HQ17.out];rfl) (jX q) ?_);intro w6 hk6 hg6 hz6
         have HN6:=kp hk6;have HW6:=kp (HW5.out.grown hg6 hs5 (by intro k e;cases e;omega));have HK6:=kp (HK5.out.grown hg6 (by intro e;cases e;omega));have HR6:=kp (HR5.out.grown hg6 (by intro e;cases e;omega));have HM6:=kp (Mine.typed HM5.out HN5.out hg6)
         have hs6:=HW6.out.size;have hl6:=HK6.out.lt;have hr6:=HR6.out.lt
         clear hk6 hg6)
      | ((with_reducible show Sn);(refine j5 rfl 24 (.tmp 4) (.tmp 30) rfl gr (wtC wtNone) rfl rfl _ _ HR6.out jD rfl (jU wtNone) ?_);intro wa hka hga hza
         have HKa:=kp hka;have HWa:=kp (HW6.out.grown hga (by have:=HW6.out.size;omega) (by intro k e;cases e;omega));have HGa:=kp hga
         clear hka hga)
      | fail)
    exact bodyPost_ret (lJ (P:=Try.prog) (fn:=Try.f21) rfl _ _ gr 24 _ _ _ rfl rfl HKa.out Try.underlying24 rfl jD) rfl ⟨wtNone,false,rfl,lF _ _,fun _ => rfl,fun _ => rfl,fun _ h => absurd h HNz.out,(by intro h;cases h),HWa.out⟩
  have HCf:=kp (HQc.out hz)
  have HF : Kept (Fine p):=kp (xT (by rw [HCc.out,hz]))
  have HGr : Kept (M.Good p (runTo p z n)):=kp (qA HF.out HP.out.row.len z n)
  have HG : Kept (M.Good p q.cf):=kp (by rw [HCf.out];exact HGr.out)
  have hb1 : ((cc : Int) != 0) = false:=by subst hz;rfl
  have HZz:=kp hz
  clear hz
  go_wp2_with (first
    | ((with_reducible show Sl 8);go_must (refine j7 rfl 91 rfl _ l7 ?_);intro gN w5 hgN hk5 hw5
       have HN5:=kp hk5;have HW5:=kp (HW4.out.trans (hw5.mono hs4));have HK5:=kp (HK4.out.below hw5 hl4);have HR5:=kp (HR4.out.below hw5 hr4);have HM5:=kp (HM4.out.below hw5 (Nat.le_refl _))
       have hs5:=HW5.out.size;have hs45:=hw5.size
       clear hk5 hw5)
    | ((with_reducible show Sn);(refine j5 rfl 91 (.tmp 8) (.tmp 26) rfl gN (pcC q) rfl rfl _ _ HN5.out (by rw [HQ17.out];exact jC) (by rw [HQ17.out];rfl) (jX q) ?_);intro w6 hk6 hg6 hz6
       have HN6:=kp hk6;have HW6:=kp (HW5.out.grown hg6 hs5 (by intro k e;cases e;omega));have HK6:=kp (HK5.out.grown hg6 (by intro e;cases e;omega));have HR6:=kp (HR5.out.grown hg6 (by intro e;cases e;omega));have HM6:=kp (Mine.typed HM5.out HN5.out hg6)
       have hs6:=HW6.out.size;have hl6:=HK6.out.lt;have hr6:=HR6.out.lt
       clear hk6 hg6)
    | ((with_reducible show Sl 32);go_must (refine j4 rfl 46 (.tmp 2) rfl g1 rfl _ (pgC p) _ HK6.out Try.underlying46 rfl jF ?_))
    | ((with_reducible show Sl 33);go_must (refine j4 rfl 91 (.tmp 8) rfl gN rfl _ (pcC q) _ HN6.out Try.underlying91 rfl (by rw [HQ17.out];exact jC) ?_))
    | (go_at_call 46;fail))
  rw [← jL,← qS]
  refine (Q4 w6.heap.size p HF.out q w6 ((HP.out.below (HW6.out.mono hB)).more13 (by omega)) HM6.out.ok HG.out (Nat.le_refl _)).mono ?_
  unfold FirstPost
  rintro e w7 ⟨fa,fb,fg,ok,rfl,hfi,hb7⟩
  have HFi : Kept (M.FirstIs p (runTo p z n) fa fb fg (if ok = true then 1 else 0)):=kp (by rw [← HCf.out];exact hfi)
  have HW7:=kp (HW6.out.trans (hb7.mono hs6));have HR7:=kp (HR6.out.below hb7 hr6)
  have hs7:=HW7.out.size;have hr7:=HR7.out.lt
  clear hfi hb7
  cases ok
  · go_wp2_with (first
      | ((with_reducible show Sn);(refine j5 rfl 24 (.tmp 4) (.tmp 41) rfl gr (wtC wtNone) rfl rfl _ _ HR7.out jD rfl (jU wtNone) ?_);intro wa hka hga hza
         have HKa:=kp hka;have HWa:=kp (HW7.out.grown hga (by have:=HW7.out.size;omega) (by intro k e;cases e;omega));have HGa:=kp hga
         clear hka hga)
      | fail)
    exact bodyPost_ret (lJ (P:=Try.prog) (fn:=Try.f21) rfl _ _ gr 24 _ _ _ rfl rfl HKa.out Try.underlying24 rfl jD) rfl ⟨wtNone,false,rfl,lF _ _,fun _ => rfl,fun _ => rfl,fun _ _ => by
           obtain ⟨h1,h2⟩ | ⟨_,h2,h3,h4,_⟩:=HFi.out
           · exact absurd h1 (by simp)
           · have h5:=HFi.out
             rw [h2,h3,h4] at h5
             exact h5,(by intro h;cases h),HWa.out⟩
  have HZ7 : Kept (Recs 2 pkV w7 w7.heap.size A n z):=kp ((HZ.out.keep (w':=w7) fun q hq => HW7.out.cell (by omega)).1.more (by omega))
  go_wp2_with (go_at_call 47;fail)
  refine (LY A n c z w7 HZ7.out hn).mono ?_
  rintro e w8 ⟨v8,rfl,ho8,hb8⟩
  obtain ⟨A8,c8,hv8,hc8,hm8,hr8⟩:=ho8.form
  subst hv8
  have HO8:=kp ho8;have HC8 : Kept (z.length ≤ c8 ∧ c8 ≤ maxLen):=kp ⟨hc8,hm8⟩
  have HW8:=kp (HW7.out.trans (hb8.mono hs7));have HR8:=kp (HR7.out.below hb8 hr7)
  have hs8:=HW8.out.size;have hs78:=hb8.size
  clear ho8 hb8 hc8 hm8 hr8
  have HFI : Kept (I64 fa ∧ I64 fb ∧ I64 fg):=kp (T.first_glob HF.out HGr.out HFi.out)
  go_wp2_with (first
    | ((with_reducible show Sn);(refine j5 rfl 24 (.tmp 4) (.tmp 47) rfl gr (wtC ⟨A8,z.length,c8,z,fa,fb,fg⟩) rfl rfl _ _ HR8.out jD rfl (jU ⟨A8,z.length,c8,z,fa,fb,fg⟩) ?_);intro wa hka hga hza
       have HKa:=kp hka;have HWa:=kp (HW8.out.grown hga (by have:=HW8.out.size;omega) (by intro k e;cases e;omega));have HGa:=kp hga
       clear hka hga)
    | fail)
  refine bodyPost_ret (lJ (P:=Try.prog) (fn:=Try.f21) rfl _ _ gr 24 _ _ _ rfl rfl HKa.out Try.underlying24 rfl jD) rfl ⟨⟨A8,z.length,c8,z,fa,fb,fg⟩,true,rfl,⟨⟨?_,?_⟩,HC8.out.1,HC8.out.2,HFI.out.1,HFI.out.2.1,HFI.out.2.2⟩,(by intro h;cases h),?_,fun _ _ => HFi.out,fun _ => ⟨rfl,HLn.out⟩,HWa.out⟩
  · have h:=HO8.out.far HGa.out (own_neR HO8.out (by omega))
    exact h.recs
  · exact HZ.out.2
  · rintro (⟨y,hy,hno⟩ | h)
    · exact absurd (HOk.out y hy) hno
    · exact absurd HZz.out h
end Go.Proofs.Ytcbfghcdbmlneaa
