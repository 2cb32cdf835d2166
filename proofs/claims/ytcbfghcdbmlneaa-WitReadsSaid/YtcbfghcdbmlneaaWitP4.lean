/- Bytes read as a witness, as the program does it, walked: Read. -/
import Derived.Test.YtcbfghcdbmlneaaPk5
import Derived.Test.YtcbfghcdbmlneaaPk9
namespace Go.Proofs.Ytcbfghcdbmlneaa
open Go.RowKit
theorem lT {P : Program} {fn : Func} {p q : Tmp} {ty ty2 : TypeId} (h : fn.results = #[.cell p ty,.cell q ty2]) (tmps : Array Value) (w : World) (g g2 : Nat) (t t2 : TypeId) (cs cs2 : List Value) (d d2 : TypeDesc)
    (hp : tmps.getD p undef = .pointer (some ⟨g,0,none⟩)) (hq : tmps.getD q undef = .pointer (some ⟨g2,0,none⟩)) (hg : Blk w g t cs) (hg2 : Blk w g2 t2 cs2)
    (hu : P.underlying ty = some d) (hd : (match d with | .struct _ | .array _ _ => true | _ => false) = true) (hi : (P.info? ty).map (·.size) = some cs.length)
    (hu2 : P.underlying ty2 = some d2) (hd2 : (match d2 with | .struct _ | .array _ _ => true | _ => false) = true) (hi2 : (P.info? ty2).map (·.size) = some cs2.length) :
    (results fn tmps).run P w = .ok (.tuple #[.agg cs.toArray,.agg cs2.toArray]) w:=by
  have hp' : tmps[p]?.getD undef = .pointer (some ⟨g,0,none⟩):=by simpa using hp
  have hq' : tmps[q]?.getD undef = .pointer (some ⟨g2,0,none⟩):=by simpa using hq
  simp [results,h,hp',hq',asAddr,run_loadVar_row w g t ty cs.toArray (0,0) d hg hu hd (by simpa using hi),run_loadVar_row w g2 t2 ty2 cs2.toArray (0,0) d2 hg2 hu2 hd2 (by simpa using hi2)]
theorem yY (bs : List Nat) : (strOf bs).toList = bs.map UInt8.ofNat:=by unfold strOf;rw [ByteArray.toList_mk]
theorem bytes_inj13 {a b : List Nat} (ha : ∀ x ∈ a,x < 256) (hb : ∀ x ∈ b,x < 256) (h : a.map UInt8.ofNat = b.map UInt8.ofNat) : a = b:=by
  have e : ∀ l : List Nat,(∀ x ∈ l,x < 256) → (l.map UInt8.ofNat).map UInt8.toNat = l:=fun l hl => by
    rw [List.map_map]
    conv => rhs;rw [← List.map_id l]
    refine List.map_congr_left fun x hx => ?_
    have:=hl x hx
    simp [UInt8.toNat_ofNat']
    omega
  rw [← e a ha,h,e b hb]
theorem T.mark_is {out : List Nat} (h : out = T.mark) : ((strOf out).toList == ([97,108,119,49] : List UInt8)) = true:=by
  rw [h,yY];rfl
theorem T.mark_not {out : List Nat} (hb : ∀ x ∈ out,x < 256) (h : out ≠ T.mark) : ((strOf out).toList == ([97,108,119,49] : List UInt8)) = false:=by
  rw [show ([97,108,119,49] : List UInt8) = T.mark.map UInt8.ofNat from rfl,yY,beq_eq_false_iff_ne]
  have hm : ∀ x ∈ T.mark,x < 256:=by decide
  exact fun e => h (bytes_inj13 hb hm e)
theorem J6 {w : World} {B n c : Nat} {A : Option Addr} {bs : List Nat} (h : Row byteV w B A n bs) : (convert 26 9 (.slice A n c)).run Try.prog w = .ok (.string (strOf bs)) w :=
  vW h 26 5 9 c Try.underlying26 Try.underlying5 Try.underlying9
theorem yM : (Try.prog.info? 22).map (·.size) = some 1:=by kernel_rfl
theorem XR : (Try.prog.info? 27).map (·.size) = some 1:=by kernel_rfl
theorem T.h0_ok (bs : List Nat) : R.Ok bs (T.h0 bs).2:=R.raw_ok (s:=T.s0) ⟨Nat.zero_le _,Nat.zero_le _,by decide⟩ 4
theorem T.h0_fit (bs : List Nat) : R.Fit (T.h0 bs).2:=R.raw_fit bs (s:=T.s0) (show R.Fit T.s0 from rfl) 4
theorem T.p5_fit {bs : List Nat} {s : R.St} (h : R.Fit s) : R.Fit (T.p5 bs s).2:=R.num_fit bs (R.num_fit bs (R.num_fit bs (R.raw_fit bs (R.num_fit bs h _) _) _) _) _
theorem T.endOf_fit {n : Nat} {s : R.St} (h : R.Fit s) : R.Fit (T.endOf n s):=by
  unfold T.endOf
  split
  · exact R.fail_fit h (by decide)
  · exact h
theorem T.h0_short {bs : List Nat} (h : (T.h0 bs).2.why ≠ 0) : (T.h0 bs).1 = []:=by
  unfold T.h0 R.raw at h ⊢
  rw [if_pos (show T.s0.why = 0 from rfl),if_neg (show ¬ ((4 : Int) < 0) by decide)] at h ⊢
  by_cases h6 : (bs.length : Int) - (T.s0.at_ : Int) < 4
  · rw [if_pos h6]
  · rw [if_neg h6] at h
    exact absurd rfl h
theorem T.h0_long {bs : List Nat} (h : (T.h0 bs).2.why = 0) : (T.h0 bs).1 = bs.take 4 ∧ (T.h0 bs).1.length = 4:=by
  obtain ⟨_,h2,h3⟩:=T.raw_eats (m:=4) (show (R.raw bs T.s0 ((4 : Nat) : Int)).2.why = 0 from h)
  refine ⟨?_,h2⟩
  have h4 : bs = (T.h0 bs).1 ++ bs.drop (T.h0 bs).2.at_:=h3
  have h5 : (T.h0 bs).1.length = 4:=h2
  conv => rhs;rw [h4]
  rw [List.take_left' h5]
def WRead (w : World) (d : T.WD) (at_ why : Nat) : Ending → World → Prop:=fun e w' => ∃ x : Wt,e = .returned (.tuple #[wtA x,.agg #[.int .i64 (at_ : Int),.int .i64 (why : Int)]]) ∧ x.Ok w' w'.heap.size ∧ x.data d ∧ Below w.heap.size w w'
theorem lD : wtNone.data T.none_:=⟨rfl,rfl,rfl,rfl⟩
set_option maxRecDepth 1000000 in
set_option maxHeartbeats 8000000 in
theorem uN (A : Option Addr) (n c : Nat) (bs : List Nat) (w : World) (hr : Row byteV w w.heap.size A n bs) (hb : ∀ x ∈ bs,x < 256) (hn : n ≤ 1000000) (d : T.WD) (at_ why : Nat) (hx : T.read bs = (d,at_,why)) :
    Calls Try.prog 14 #[.slice A n c] w (WRead w d at_ why):=by
  have HR:=kp hr;have HB:=kp hb;have HX:=kp hx;have HLb:=kp hr.len
  obtain ⟨out,s1,h0⟩ : ∃ out s1,T.h0 bs = (out,s1):=⟨_,_,rfl⟩
  have HH0 : Kept (R.raw bs T.s0 4 = (out,s1)):=kp h0
  have HE0:=kp h0
  have HS0 : Kept (R.Ok bs T.s0):=kp ⟨Nat.zero_le _,Nat.zero_le _,by decide⟩
  have HO1 : Kept (R.Ok bs s1):=kp (by have:=T.h0_ok bs;rw [h0] at this;exact this)
  have HF1 : Kept (R.Fit s1):=kp (by have:=T.h0_fit bs;rw [h0] at this;exact this)
  have HLong : Kept (s1.why = 0 → out.length = 4 ∧ ∀ x ∈ out,x < 256):=kp (fun h => by
    obtain ⟨a1,a2⟩:=T.h0_long (bs:=bs) (by rw [h0];exact h)
    rw [h0] at a1 a2
    simp only at a1 a2
    exact ⟨a2,fun x hx => by rw [a1] at hx;exact hb x (List.mem_of_mem_take hx)⟩)
  have HShort : Kept (s1.why ≠ 0 → out = []):=kp (fun h => by have:=T.h0_short (bs:=bs) (by rw [h0];exact h);rw [h0] at this;exact this)
  obtain ⟨tu,s2,h2⟩ : ∃ a b,T.p2 bs s1 = (a,b):=⟨_,_,rfl⟩
  obtain ⟨a,s3,h3⟩ : ∃ a b,T.p3 bs s1 = (a,b):=⟨_,_,rfl⟩
  obtain ⟨b,s4,h4⟩ : ∃ a b,T.p4 bs s1 = (a,b):=⟨_,_,rfl⟩
  obtain ⟨gl,s5,h5⟩ : ∃ a b,T.p5 bs s1 = (a,b):=⟨_,_,rfl⟩
  obtain ⟨s6,h6⟩ : ∃ s,T.endOf n s5 = s:=⟨_,rfl⟩
  have H2:=kp h2;have H3:=kp h3;have H4:=kp h4;have H5:=kp h5
  have H6 : Kept ((if s5.why = 0 ∧ s5.at_ < n then R.fail s5 7 else s5) = s6):=kp h6
  have HFin : Kept (T.fin bs = s6):=kp (by unfold T.fin;rw [h0,h5,hr.len];exact h6)
  have HFit : Kept (R.Fit s6):=kp (by rw [← h6];refine T.endOf_fit ?_;have:=T.p5_fit (bs:=bs) HF1.out;rw [h5] at this;exact this)
  have HTu : Kept (s6.why = 0 → tu.length ≤ 4096 ∧ (a : Int) ≤ 7 ∧ (b : Int) ≤ 7 ∧ (gl : Int) ≤ 15):=kp (fun h => by
    obtain ⟨_,f2,_⟩:=T.endOf_zero (show (T.endOf n s5).why = 0 by rw [h6];exact h)
    obtain ⟨g1,_,_⟩:=C.num_eats hb (show (R.num bs (T.p4 bs s1).2 15).2.why = 0 by have:=congrArg (·.2.why) h5;exact this.trans f2)
    obtain ⟨j1,_,_⟩:=C.num_eats hb (show (R.num bs (T.p3 bs s1).2 7).2.why = 0 from g1)
    obtain ⟨k1,_,_⟩:=C.num_eats hb (show (R.num bs (T.p2 bs s1).2 7).2.why = 0 from j1)
    obtain ⟨_,l2,_⟩:=T.raw_eats (show (R.raw bs (T.p1 bs s1).2 ((T.p1 bs s1).1 : Int)).2.why = 0 from k1)
    have x1 : ((T.p1 bs s1).1 : Int) ≤ 4096:=R.num_le (bs:=bs) (s:=s1) (most:=4096) (by omega)
    have x3 : ((T.p3 bs s1).1 : Int) ≤ 7:=R.num_le (bs:=bs) (s:=(T.p2 bs s1).2) (most:=7) (by omega)
    have x4 : ((T.p4 bs s1).1 : Int) ≤ 7:=R.num_le (bs:=bs) (s:=(T.p3 bs s1).2) (most:=7) (by omega)
    have x5 : ((T.p5 bs s1).1 : Int) ≤ 15:=R.num_le (bs:=bs) (s:=(T.p4 bs s1).2) (most:=15) (by omega)
    have e : (T.p2 bs s1).1.length = (T.p1 bs s1).1:=l2
    rw [h2] at e;rw [h3] at x3;rw [h4] at x4;rw [h5] at x5
    simp only at e x3 x4 x5
    exact ⟨by omega,x3,x4,x5⟩)
  have HTub : Kept (∀ x ∈ tu,x < 256):=kp (fun x hx => by
    have e : tu = (R.raw bs (T.p1 bs s1).2 ((T.p1 bs s1).1 : Int)).1:=by have:=congrArg (·.1) h2;exact this.symm
    rw [e] at hx
    unfold R.raw at hx
    split at hx
    · split at hx
      · cases hx
      · split at hx
        · cases hx
        · exact hb x (List.mem_of_mem_drop (List.mem_of_mem_take hx))
    · cases hx)
  have HForm : Kept (s1.why = 0 → out ≠ T.mark → d = T.none_ ∧ at_ = 0 ∧ why = 3):=kp (fun e1 e2 => by
    rw [T.read_form (by rw [h0];exact ⟨e1,e2⟩)] at hx;cases hx;exact ⟨rfl,rfl,rfl⟩)
  have HNf : Kept ((s1.why = 0 → out = T.mark) → ¬ ((T.h0 bs).2.why = 0 ∧ (T.h0 bs).1 ≠ T.mark)):=kp (fun e1 e2 => by rw [h0] at e2;exact e2.2 (e1 e2.1))
  clear hr hb hx h0 h2 h3 h4 h5 h6
  unfold WRead
  go_enter Try.func14,Try.ntmps14
  go_wp2_with (first
    | ((with_reducible show Sl 2);go_must (refine j7 rfl 24 rfl _ lW ?_);intro gr w1 hgr hk1 hw1;have HKa1:=kp hk1;have HW1:=kp hw1;have hs1:=hw1.size;have hl1:=hk1.lt;clear hk1 hw1)
    | ((with_reducible show Sl 3);go_must (refine j7 rfl 35 rfl _ lY ?_);intro gs w2 hgs hk2 hw2
       have HKb2:=kp hk2;have HKa2:=kp (HKa1.out.below hw2 hl1);have HW2:=kp (HW1.out.trans (hw2.mono hs1));have hs2:=hw2.size;have hl2:=hk2.lt;have hbw:=HW2.out.size
       have HR2:=kp (HR.out.below HW2.out)
       clear hk2 hw2)
    | (go_at_call 32;go_must (refine (pd_new w.heap.size A n c bs w2 HR2.out (by omega) (by omega)).mono ?_);rintro e w3 ⟨g,A1,c1,rfl,hg3,hk3,hr3,hc3,hm3,hb3⟩
       have HPd3:=kp hk3;have HR3:=kp hr3;have HM3:=kp hm3;have HB3:=kp hb3
       have hs3:=hb3.size;have hl3:=hk3.lt
       clear hk3 hr3 hm3 hb3)
    | (go_at_call 33;fail))
  refine (pd_raw g g A1 n c1 bs T.s0 HS0.out 4 out s1 HH0.out w3 HPd3.out HR3.out (by omega) hc3 (Nat.le_refl _) (by omega)).mono ?_
  rintro e w4 ⟨v,rfl,hown,hk4,hg4,hr4⟩
  obtain ⟨A5,c5,rfl,hc5,hm5,hr5⟩:=Own.readsN hown rfl
  have HPd4:=kp hk4;have HR4:=kp hr4
  have HB4:=kp (HB3.out.grown hg4 hs3 (by intro k e;cases e;exact hg3))
  have hs4:=HB4.out.size;have hl4:=hk4.lt
  have hm55 : c5 ≤ 9223372036854775807:=by unfold maxLen at hm5;omega
  have hcv:=J6 (c:=c5) hr5
  clear hown hk4 hg4 hr4 hm5 hr5
  by_cases hw1 : s1.why = 0
  · by_cases hmk : out = T.mark
    · have hnf : s1.why = 0 → out = T.mark:=fun _ => hmk
      have hte:=T.mark_is hmk
      have hl4' : out.length = 4:=(HLong.out hw1).1
      generalize out.length = lo at *
      subst hl4'
      clear hw1 hmk
      go_wp2_with (go_at_call 34;fail)
      refine (uM g g A1 n c1 bs s1 HO1.out tu a b gl s2 s3 s4 s5 H2.out H3.out H4.out H5.out w4 HPd4.out HR4.out HB.out (by omega) hc3 HM3.out (Nat.le_refl _) (by omega)).mono ?_
      rintro e w5 ⟨v5,rfl,hown5,hk5,hg5,hok5⟩
      have HPd5:=kp hk5;have HB5:=kp (HB4.out.grown hg5 hs4 (by intro k e;cases e;exact hg3));have HOk5:=kp hok5
      have hs5:=HB5.out.size;have hl5:=hk5.lt;have hs45:=hg5.size
      obtain ⟨A6,c6,hv5,hc6,hm6,_⟩:=hown5.bytes
      subst hv5
      have HOw5:=kp hown5
      have hm66 : c6 ≤ 9223372036854775807:=by unfold maxLen at hm6;omega
      have hat5 : s5.at_ ≤ n:=by have h:=hok5.1;have h2:=HLb.out;omega
      clear hown5 hk5 hg5 hm6 hcv hok5
      go_wp2_with (first
        | ((with_reducible show Sl 7);go_must (refine j7 rfl 24 rfl _ lW ?_);intro g7 w6 hg7 hk6 hw6
           have HK6:=kp hk6;have HPd6:=kp (Blk.below HPd5.out hw6 hl5);have HB6:=kp (HB5.out.trans (hw6.mono hs5));have HOw6:=kp (HOw5.out.below hw6 (Nat.le_refl _));have NE7:=kp (Y2 HOw5.out hg7)
           have hs6:=HB6.out.size;have hs56:=hw6.size;have hl6:=hk6.lt
           clear hk6 hw6)
        | ((with_reducible show Sn);(refine j5 rfl 24 (.tmp 7) (.tmp 28) rfl g7 [.slice none 0 0,.int .i64 (a : Int),.int .i64 (b : Int),.int .i64 (gl : Int)] rfl rfl _ _ HK6.out jD rfl (jU ⟨none,0,0,[],(a : Int),(b : Int),(gl : Int)⟩) ?_);intro w7 hk7 hg7' hz7
           have HK7:=kp hk7;have HPd7:=kp (Blk.grown HPd6.out hg7' (by intro e;cases e;omega));have HB7:=kp (HB6.out.grown hg7' hs6 (by intro k e;cases e;omega));have HOw7:=kp (HOw6.out.far hg7' NE7.out)
           have hs7:=HB7.out.size;have hl7:=hk7.lt
           clear hk7 hg7')
        | (go_at_call 35;fail))
      refine (pd_done g A1 n c1 s5 w7 HPd7.out hat5 (by omega) s6 H6.out).mono ?_
      rintro e w8 ⟨rfl,hk8,hg8⟩
      have HPd8:=kp hk8;have HB8:=kp (HB7.out.grown hg8 hs7 (by intro k e;cases e;exact hg3));have HK8:=kp (HK7.out.grown hg8 (by intro e;cases e;omega));have HOw8:=kp (HOw7.out.far hg8 (JG HOw7.out (by omega)))
      have hs8:=HB8.out.size;have hs78:=hg8.size;have hl8:=HK8.out.lt
      clear hk8 hg8
      by_cases hw6 : s6.why = 0
      rotate_left
      · have hdw : decide (s6.why = 0) = false:=decide_eq_false hw6
        have hxe:=HX.out
        rw [T.read_fault (HNf.out hnf) (by rw [HFin.out];exact hw6),HFin.out] at hxe
        obtain ⟨rfl,h7⟩:=Prod.mk.inj hxe
        obtain ⟨rfl,rfl⟩:=Prod.mk.inj h7
        clear hxe h7 hw6
        go_wp2_with (go_at_call 36;fail)
        refine (pd_fault g A1 n c1 s6 HFit.out w8 HPd8.out).mono ?_
        rintro e w9 ⟨rfl,hb9⟩
        have HB9:=kp (HB8.out.trans (hb9.mono hs8))
        clear hb9
        go_wp2_with (first
          | ((with_reducible show Sn);(refine j5 rfl 24 (.tmp 2) (.tmp 32) rfl gr (wtC wtNone) rfl rfl _ _ (HKa2.out.below HB9.out (by omega)) jD rfl (jU wtNone) ?_);intro wa hka hga hza
             have HKa:=kp hka;have HGa:=kp hga;have HKs:=kp ((HKb2.out.below HB9.out hl2).grown hga (by intro e;cases e;omega))
             clear hka hga)
          | ((with_reducible show Sn);(refine j5 rfl 35 (.tmp 3) (.tmp 34) rfl gs [.int .i64 (s6.wh : Int),.int .i64 (s6.why : Int)] rfl rfl _ _ HKs.out jR rfl (lA _ _) ?_);intro wb hkb hgb hzb
             have HKbb:=kp hkb;have HKab:=kp (HKa.out.grown hgb (by intro e;cases e;omega))
             have HBb : Kept (Below w.heap.size w wb):=kp (((HW2.out.trans (HB9.out.mono (by omega))).grown HGa.out (by have:=HB9.out.size;omega) (by intro k e;cases e;exact hgr)).grown hgb (by have:=HB9.out.size;omega) (by intro k e;cases e;omega))
             have HGb:=kp hgb
             clear hkb hgb)
          | ((with_reducible show bodyPost _ _ _ _ _ _);exact bodyPost_ret (lT (P:=Try.prog) (fn:=Try.f14) rfl _ _ gr gs 24 35 _ _ _ _ rfl rfl HKab.out HKbb.out Try.underlying24 rfl jD Try.underlying35 rfl jR) rfl ⟨wtNone,rfl,lF _ _,lD,HBb.out⟩))
      have hdw : decide (s6.why = 0) = true:=decide_eq_true hw6
      obtain ⟨ht1,ha7,hb7,hg15⟩:=HTu.out hw6
      have HRd : Kept (∀ Q : Prop,(¬ ((T.h0 bs).2.why = 0 ∧ (T.h0 bs).1 ≠ T.mark) → (T.fin bs).why = 0 → Q) → Q):=kp (fun Q h => h (HNf.out hnf) (by rw [HFin.out];exact hw6))
      have HP2 : Kept ((T.p2 bs (T.h0 bs).2).1 = tu):=kp (by rw [HE0.out,H2.out])
      have HP3 : Kept ((T.p3 bs (T.h0 bs).2).1 = a):=kp (by rw [HE0.out,H3.out])
      have HP4 : Kept ((T.p4 bs (T.h0 bs).2).1 = b):=kp (by rw [HE0.out,H4.out])
      have HP5 : Kept ((T.p5 bs (T.h0 bs).2).1 = gl):=kp (by rw [HE0.out,H5.out])
      have HPick : Kept ((∃ x ∈ tu,16 ≤ x) → d = T.none_ ∧ n = at_ ∧ why = 3):=kp (fun h => by
        have hx:=HX.out
        rw [HRd.out _ fun q1 q2 => T.read_pick q1 q2 (by rw [HP2.out];exact h)] at hx
        rw [HLb.out] at hx
        cases hx;exact ⟨rfl,rfl,rfl⟩)
      have HAlike : Kept ((∀ x ∈ tu,x < 16) → a = b → d = T.none_ ∧ n = at_ ∧ why = 1):=kp (fun h h' => by
        have hx:=HX.out
        rw [HRd.out _ fun q1 q2 => T.read_alike q1 q2 (by rw [HP2.out];rintro ⟨x,hx,h16⟩;have:=h x hx;omega) (by rw [HP3.out,HP4.out];exact h')] at hx
        rw [HLb.out] at hx
        cases hx;exact ⟨rfl,rfl,rfl⟩)
      have HFine : Kept ((∀ x ∈ tu,x < 16) → a ≠ b → d = ⟨tu.map M.bp,a,b,gl⟩ ∧ at_ = 0 ∧ why = 0):=kp (fun h h' => by
        have hx:=HX.out
        rw [HRd.out _ fun q1 q2 => T.read_fine q1 q2 (by rw [HP2.out];rintro ⟨x,hx,h16⟩;have:=h x hx;omega) (by rw [HP3.out,HP4.out];exact h')] at hx
        rw [HP2.out,HP3.out,HP4.out,HP5.out] at hx
        cases hx;exact ⟨rfl,rfl,rfl⟩)
      clear hw6
      obtain ⟨nt,hnt⟩ : ∃ nt,tu.length = nt:=⟨_,rfl⟩
      rw [hnt] at ht1 HOw8 ⊢
      have HNt:=kp hnt
      have HT8 : Kept (Row byteV w8 w8.heap.size A6 nt tu):=kp (by
        obtain ⟨A6',c6',e,_,_,hr⟩:=Own.readsN HOw8.out hnt
        cases e
        exact hr)
      clear hnt
      go_wp2_with (go_at_call 37;fail)
      refine (sc_get w8.heap.size A6 nt c6 tu w8 HT8.out HTub.out (by omega) (Nat.le_refl _)).mono ?_
      rintro e w9 ⟨h,hb9⟩
      have HB9:=kp (HB8.out.trans (hb9.mono hs8));have HK9:=kp (HK8.out.below hb9 hl8)
      have hs9:=HB9.out.size;have hl9:=HK9.out.lt;have hs89:=hb9.size
      clear hb9
      rcases h with ⟨h4,_⟩ | ⟨_,i,x,hi,h16,_,rfl⟩ | ⟨_,hall,gp,rfl,hgp,hkp⟩
      · omega
      · obtain ⟨rfl,rfl,rfl⟩:=HPick.out ⟨x,List.mem_of_getElem? hi,h16⟩
        clear hi h16
        go_wp2_with (first
          | ((with_reducible show Sl 9);go_must (refine j7 rfl 35 rfl _ lY ?_);intro g9 w10 hg9 hk10 hw10
             have HS10:=kp hk10;have HB10:=kp (HB9.out.trans (hw10.mono hs9));have HK10:=kp (HK9.out.below hw10 hl9)
             have hs10:=HB10.out.size;have hs910:=hw10.size;have hl10:=hk10.lt
             clear hk10 hw10)
          | ((with_reducible show Sn);(refine j5 rfl 35 (.tmp 9) (.tmp 39) rfl g9 [.int .i64 (i : Int),.int .i64 3] rfl rfl _ _ HS10.out jR rfl (lA _ _) ?_);intro w11 hk11 hg11 hz11
             have HS11:=kp hk11;have HB11:=kp (HB10.out.grown hg11 hs10 (by intro k e;cases e;omega));have HK11:=kp (HK10.out.grown hg11 (by intro e;cases e;omega))
             have hs11:=HB11.out.size;have hl11:=HK11.out.lt
             clear hk11 hg11)
          | ((with_reducible show Sn);(refine j9 rfl 22 (.tmp 41) (.tmp 40) rfl g7 0 (.slice none 0 0) rfl rfl rfl rfl _ _ HK11.out (show 0 < 4 by omega) yM ?_);intro w12 hk12 hg12 hz12
             have HK12 : Kept (Blk w12 g7 24 [.slice none 0 0,.int .i64 (a : Int),.int .i64 (b : Int),.int .i64 (gl : Int)]):=kp hk12
             have HS12:=kp (HS11.out.grown hg12 (by intro e;cases e;omega));have HB12:=kp (HB11.out.grown hg12 hs11 (by intro k e;cases e;omega))
             have hs12:=HB12.out.size;have hl12:=hk12.lt;have hs912 : w9.heap.size ≤ w12.heap.size:=by omega
             have hd1 : w12.cell? ⟨g9,1,none⟩ = some (.int .i64 3):=HS12.out.cell 1
             clear hk12 hg12)
          | fail)
        have HKaz:=kp (HKa2.out.below HB12.out (by omega));have HKbz:=kp (HKb2.out.below HB12.out hl2)
        have hszw:=HB12.out.size
        have hlaz:=HKaz.out.lt;have hlbz:=HKbz.out.lt;have hlsz:=HS12.out.lt
        clear hd1
        apply qD (fun k => k = gr ∨ k = gs) [6,7] (phs ([fun W => Blk W gr 24 (wtC wtNone) ∧ Blk W gs 35 [.int .i64 0,.int .i64 0],fun W => Blk W gr 24 (wtC wtNone) ∧ Blk W gs 35 [.int .i64 0,.int .i64 0],fun W => Blk W gr 24 (wtC wtNone) ∧ Blk W gs 35 [.int .i64 (n : Int),.int .i64 3]])) (.is _ :: .is _ :: .is _ :: .is _ :: .is _ :: .is _ :: .any _ :: .any _ :: [])
          [[],[],[(1,52)],[],[(3,54)],[(2,53),(4,55)],[(0,51)],[(5,56)]]
          [(0,51),(1,52),(2,53),(3,54),(4,55),(5,56)] (by kernel_rfl) (by kernel_rfl) (by kernel_rfl) (by decide)
        case h0 => exact ⟨HKaz.out,HKbz.out⟩
        case hob =>
          refine jE rfl ?o0 (jE rfl ?o1 (jE rfl ?o2 (jE rfl ?o3 (jE rfl ?o4 (jE rfl ?o5 (qL 0 rfl rfl ?o6 (qL 1 rfl rfl ?o7 (xH))))))))
          case o0 => intro p W hO hJ;change wpList _ _ _ _ _ _;go_wp2;exact j8 rfl rfl rfl hJ
          case o1 => intro p W hO hJ;change wpList _ _ _ _ _ _;go_wp2;exact j8 rfl rfl rfl hJ
          case o2 => intro p W hO hJ;rintro _ rfl;change wpList _ _ _ _ _ _;go_wp2;exact j8 rfl rfl rfl hJ
          case o3 => intro p W hO hJ;change wpList _ _ _ _ _ _;go_wp2;exact j8 rfl rfl rfl hJ
          case o4 =>
            intro p W hO hJ;rintro _ rfl;change wpList _ _ _ _ _ _
            have hq : W.cell? ⟨g9,1,none⟩ = some (.int .i64 3):=(hO.blk HS12.out (by omega)).cell 1
            go_wp2;exact j8 rfl rfl rfl hJ
          case o5 => intro p W hO hJ;rintro _ rfl;rintro _ rfl;change wpList _ _ _ _ _ _;go_wp2;exact j8 rfl rfl rfl hJ
          case o6 =>
            intro W hO hJ;rintro _ rfl;change wpList _ _ _ _ _ _
            have hj : Blk W gr 24 (wtC wtNone) ∧ Blk W gs 35 [.int .i64 0,.int .i64 0]:=hJ
            refine j5 rfl 24 (.tmp 2) (.tmp 51) rfl gr (wtC wtNone) rfl rfl _ _ hj.1 jD rfl (jU wtNone) ?_
            intro wa hka hga hza
            go_wp2
            exact l8 rfl (Only.of_grown hga (.inl rfl)) ⟨hka,hj.2.grown hga (by intro e;cases e;omega)⟩
          case o7 =>
            intro W hO hJ;rintro _ rfl;change wpList _ _ _ _ _ _
            have hj : Blk W gr 24 (wtC wtNone) ∧ Blk W gs 35 [.int .i64 0,.int .i64 0]:=hJ
            refine j5 rfl 35 (.tmp 3) (.tmp 56) rfl gs [.int .i64 (n : Int),.int .i64 3] rfl rfl _ _ hj.2 jR rfl (lA _ _) ?_
            intro wa hka hga hza
            go_wp2
            exact l8 rfl (Only.of_grown hga (.inr rfl)) ⟨hj.1.grown hga (by intro e;cases e;omega),hka⟩
        case hend =>
          intro W hO hJ;rintro _ rfl;rintro _ rfl;rintro _ rfl;rintro _ rfl;rintro _ rfl;rintro _ rfl
          simp only [ggiven,jJ,List.set]
          have hj : Blk W gr 24 (wtC wtNone) ∧ Blk W gs 35 [.int .i64 (n : Int),.int .i64 3]:=hJ
          have HKab:=kp hj.1;have HKbb:=kp hj.2
          have HBb : Kept (Below w.heap.size w W):=kp ((HW2.out.trans (HB12.out.mono (by omega))).trans (hO.below (by omega) (fun k hk => by rcases hk with rfl | rfl <;> omega)))
          clear hj hJ hO
          go_wp2_with ((with_reducible show bodyPost _ _ _ _ _ _);exact bodyPost_ret (lT (P:=Try.prog) (fn:=Try.f14) rfl _ _ gr gs 24 35 _ _ _ _ rfl rfl HKab.out HKbb.out Try.underlying24 rfl jD Try.underlying35 rfl jR) rfl ⟨wtNone,rfl,lF _ _,lD,HBb.out⟩)
      · have HAll:=kp hall
        have hlp:=hkp.lt
        have HPk9 : Kept (Blk w9 gp 56 (cellsR 2 pkV (tu.map M.bp))):=kp hkp
        clear hall hkp
        go_wp2_with (first
          | ((with_reducible show Sl 9);go_must (refine j7 rfl 35 rfl _ lY ?_);intro g9 w10 hg9 hk10 hw10
             have HS10:=kp hk10;have HB10:=kp (HB9.out.trans (hw10.mono hs9));have HK10:=kp (HK9.out.below hw10 hl9);have HPk10:=kp (HPk9.out.below hw10 hlp)
             have hs10:=HB10.out.size;have hs910:=hw10.size;have hl10:=hk10.lt
             clear hk10 hw10)
          | ((with_reducible show Sn);(refine j5 rfl 35 (.tmp 9) (.tmp 39) rfl g9 [.int .i64 0,.int .i64 0] rfl rfl _ _ HS10.out jR rfl (lA _ _) ?_);intro w11 hk11 hg11 hz11
             have HS11:=kp hk11;have HB11:=kp (HB10.out.grown hg11 hs10 (by intro k e;cases e;omega));have HK11:=kp (HK10.out.grown hg11 (by intro e;cases e;omega));have HPk11:=kp (HPk10.out.grown hg11 (by intro e;cases e;omega))
             have hs11:=HB11.out.size;have hl11:=HK11.out.lt
             clear hk11 hg11)
          | ((with_reducible show Sn);(refine j9 rfl 22 (.tmp 41) (.tmp 40) rfl g7 0 (.slice (some ⟨gp,0,none⟩) nt nt) rfl rfl rfl rfl _ _ HK11.out (show 0 < 4 by omega) yM ?_);intro w12 hk12 hg12 hz12
             have HK12 : Kept (Blk w12 g7 24 [.slice (some ⟨gp,0,none⟩) nt nt,.int .i64 (a : Int),.int .i64 (b : Int),.int .i64 (gl : Int)]):=kp hk12
             have HS12:=kp (HS11.out.grown hg12 (by intro e;cases e;omega));have HB12:=kp (HB11.out.grown hg12 hs11 (by intro k e;cases e;omega));have HPk12:=kp (HPk11.out.grown hg12 (by intro e;cases e;omega))
             have hs12:=HB12.out.size;have hl12:=hk12.lt;have hs912 : w9.heap.size ≤ w12.heap.size:=by omega
             have hd1 : w12.cell? ⟨g9,1,none⟩ = some (.int .i64 0):=HS12.out.cell 1
             clear hk12 hg12)
          | ((with_reducible show Sl 45);go_must (refine j4 rfl 24 (.tmp 7) rfl g7 rfl _ [.slice (some ⟨gp,0,none⟩) nt nt,.int .i64 (a : Int),.int .i64 (b : Int),.int .i64 (gl : Int)] _ HK12.out Try.underlying24 rfl jD ?_))
          | (go_at_call 12;fail))
        have hnt' : (tu.map M.bp).length = nt:=by rw [List.length_map];exact HNt.out
        have HWk : Kept (∀ W,Blk W gp 56 (cellsR 2 pkV (tu.map M.bp)) → Wt.Ok (⟨some ⟨gp,0,none⟩,nt,nt,tu.map M.bp,(a : Int),(b : Int),(gl : Int)⟩ : Wt) W W.heap.size):=kp (fun W hW => ⟨Blk.picks hW hnt' (Nat.le_refl _) (fun x hx => by
          obtain ⟨y,_,rfl⟩:=List.mem_map.1 hx
          obtain ⟨h1,h2⟩:=M.bp_ok y
          unfold I64;omega),Nat.le_refl _,by show nt ≤ maxLen;unfold maxLen;omega,by show I64 (a : Int);unfold I64;omega,by show I64 (b : Int);unfold I64;omega,by show I64 (gl : Int);unfold I64;omega⟩)
        have HOkp : Kept (∀ x ∈ tu.map M.bp,M.okP x):=kp (fun x hx => by
          obtain ⟨y,_,rfl⟩:=List.mem_map.1 hx
          exact M.bp_ok y)
        have HL4 : Kept ((tu.map M.bp).length ≤ 4096):=kp (by rw [hnt'];exact ht1)
        clear hnt'
        by_cases hab : a = b
        · have HCk : Kept (Wt.check (⟨some ⟨gp,0,none⟩,nt,nt,tu.map M.bp,(a : Int),(b : Int),(gl : Int)⟩ : Wt) = 1):=kp (T.check_nums HL4.out (show T.okN (a : Int) (b : Int) (gl : Int) = false by unfold T.okN;exact decide_eq_false (by omega)))
          obtain ⟨rfl,rfl,rfl⟩:=HAlike.out HAll.out hab
          refine (xF w12.heap.size (⟨some ⟨gp,0,none⟩,nt,nt,tu.map M.bp,(a : Int),(b : Int),(gl : Int)⟩ : Wt) w12 (HWk.out w12 HPk12.out) (by show nt ≤ 5000;omega) (Nat.le_refl _) 1 HCk.out).mono ?_
          rintro e w13 ⟨rfl,hb13⟩
          have HB13:=kp (HB12.out.trans (hb13.mono hs12));have HS13:=kp (HS12.out.below hb13 HS12.out.lt)
          have hs13:=HB13.out.size;have hs1213:=hb13.size
          clear hb13 hd1
          go_wp2_with (first
            | ((with_reducible show Sn);(refine j9 rfl 27 (.tmp 47) (.tmp 46) rfl g9 1 (.int .i64 1) rfl rfl rfl rfl _ _ HS13.out (show 1 < 2 by omega) XR ?_);intro w14 hk14 hg14 hz14
               have HS14 : Kept (Blk w14 g9 35 [.int .i64 0,.int .i64 1]):=kp hk14
               have HB14:=kp (HB13.out.grown hg14 hs13 (by intro k e;cases e;omega))
               have hd14 : w14.cell? ⟨g9,1,none⟩ = some (.int .i64 1):=HS14.out.cell 1
               clear hk14 hg14)
            | fail)
          have HKaz:=kp (HKa2.out.below HB14.out (by omega));have HKbz:=kp (HKb2.out.below HB14.out hl2)
          have hszw:=HB14.out.size
          have hlaz:=HKaz.out.lt;have hlbz:=HKbz.out.lt;have hlsz:=HS14.out.lt
          clear hd14
          apply qD (fun k => k = gr ∨ k = gs) [6,7] (phs ([fun W => Blk W gr 24 (wtC wtNone) ∧ Blk W gs 35 [.int .i64 0,.int .i64 0],fun W => Blk W gr 24 (wtC wtNone) ∧ Blk W gs 35 [.int .i64 0,.int .i64 0],fun W => Blk W gr 24 (wtC wtNone) ∧ Blk W gs 35 [.int .i64 (n : Int),.int .i64 1]])) (.is _ :: .is _ :: .is _ :: .is _ :: .is _ :: .is _ :: .any _ :: .any _ :: [])
            [[],[],[(1,52)],[],[(3,54)],[(2,53),(4,55)],[(0,51)],[(5,56)]]
            [(0,51),(1,52),(2,53),(3,54),(4,55),(5,56)] (by kernel_rfl) (by kernel_rfl) (by kernel_rfl) (by decide)
          case h0 => exact ⟨HKaz.out,HKbz.out⟩
          case hob =>
            refine jE rfl ?o0 (jE rfl ?o1 (jE rfl ?o2 (jE rfl ?o3 (jE rfl ?o4 (jE rfl ?o5 (qL 0 rfl rfl ?o6 (qL 1 rfl rfl ?o7 (xH))))))))
            case o0 => intro p W hO hJ;change wpList _ _ _ _ _ _;go_wp2;exact j8 rfl rfl rfl hJ
            case o1 => intro p W hO hJ;change wpList _ _ _ _ _ _;go_wp2;exact j8 rfl rfl rfl hJ
            case o2 => intro p W hO hJ;rintro _ rfl;change wpList _ _ _ _ _ _;go_wp2;exact j8 rfl rfl rfl hJ
            case o3 => intro p W hO hJ;change wpList _ _ _ _ _ _;go_wp2;exact j8 rfl rfl rfl hJ
            case o4 =>
              intro p W hO hJ;rintro _ rfl;change wpList _ _ _ _ _ _
              have hq : W.cell? ⟨g9,1,none⟩ = some (.int .i64 1):=(hO.blk HS14.out (by omega)).cell 1
              go_wp2;exact j8 rfl rfl rfl hJ
            case o5 => intro p W hO hJ;rintro _ rfl;rintro _ rfl;change wpList _ _ _ _ _ _;go_wp2;exact j8 rfl rfl rfl hJ
            case o6 =>
              intro W hO hJ;rintro _ rfl;change wpList _ _ _ _ _ _
              have hj : Blk W gr 24 (wtC wtNone) ∧ Blk W gs 35 [.int .i64 0,.int .i64 0]:=hJ
              refine j5 rfl 24 (.tmp 2) (.tmp 51) rfl gr (wtC wtNone) rfl rfl _ _ hj.1 jD rfl (jU wtNone) ?_
              intro wa hka hga hza
              go_wp2
              exact l8 rfl (Only.of_grown hga (.inl rfl)) ⟨hka,hj.2.grown hga (by intro e;cases e;omega)⟩
            case o7 =>
              intro W hO hJ;rintro _ rfl;change wpList _ _ _ _ _ _
              have hj : Blk W gr 24 (wtC wtNone) ∧ Blk W gs 35 [.int .i64 0,.int .i64 0]:=hJ
              refine j5 rfl 35 (.tmp 3) (.tmp 56) rfl gs [.int .i64 (n : Int),.int .i64 1] rfl rfl _ _ hj.2 jR rfl (lA _ _) ?_
              intro wa hka hga hza
              go_wp2
              exact l8 rfl (Only.of_grown hga (.inr rfl)) ⟨hj.1.grown hga (by intro e;cases e;omega),hka⟩
          case hend =>
            intro W hO hJ;rintro _ rfl;rintro _ rfl;rintro _ rfl;rintro _ rfl;rintro _ rfl;rintro _ rfl
            simp only [ggiven,jJ,List.set]
            have hj : Blk W gr 24 (wtC wtNone) ∧ Blk W gs 35 [.int .i64 (n : Int),.int .i64 1]:=hJ
            have HKab:=kp hj.1;have HKbb:=kp hj.2
            have HBb : Kept (Below w.heap.size w W):=kp ((HW2.out.trans (HB14.out.mono (by omega))).trans (hO.below (by omega) (fun k hk => by rcases hk with rfl | rfl <;> omega)))
            clear hj hJ hO
            go_wp2_with ((with_reducible show bodyPost _ _ _ _ _ _);exact bodyPost_ret (lT (P:=Try.prog) (fn:=Try.f14) rfl _ _ gr gs 24 35 _ _ _ _ rfl rfl HKab.out HKbb.out Try.underlying24 rfl jD Try.underlying35 rfl jR) rfl ⟨wtNone,rfl,lF _ _,lD,HBb.out⟩)
        · have HCk : Kept (Wt.check (⟨some ⟨gp,0,none⟩,nt,nt,tu.map M.bp,(a : Int),(b : Int),(gl : Int)⟩ : Wt) = 0):=kp (T.check_fine HL4.out HOkp.out (show T.okN (a : Int) (b : Int) (gl : Int) = true from T.okN_iff.2 ⟨by omega,by omega,by omega,by omega,by omega,by omega,by omega⟩))
          obtain ⟨rfl,rfl,rfl⟩:=HFine.out HAll.out hab
          refine (xF w12.heap.size (⟨some ⟨gp,0,none⟩,nt,nt,tu.map M.bp,(a : Int),(b : Int),(gl : Int)⟩ : Wt) w12 (HWk.out w12 HPk12.out) (by show nt ≤ 5000;omega) (Nat.le_refl _) 0 HCk.out).mono ?_
          rintro e w13 ⟨rfl,hb13⟩
          have HB13:=kp (HB12.out.trans (hb13.mono hs12));have HS13:=kp (HS12.out.below hb13 HS12.out.lt);have HK13:=kp (HK12.out.below hb13 hl12);have HPk13:=kp (HPk12.out.below hb13 HPk12.out.lt)
          have hs13:=HB13.out.size;have hs1213:=hb13.size
          clear hb13 hd1
          go_wp2_with (first
            | ((with_reducible show Sl 57);go_must (refine j4 rfl 24 (.tmp 7) rfl g7 rfl _ [.slice (some ⟨gp,0,none⟩) nt nt,.int .i64 (a : Int),.int .i64 (b : Int),.int .i64 (gl : Int)] _ HK14.out Try.underlying24 rfl jD ?_))
            | ((with_reducible show Sn);(refine j9 rfl 27 (.tmp 47) (.tmp 46) rfl g9 1 (.int .i64 0) rfl rfl rfl rfl _ _ HS13.out (show 1 < 2 by omega) XR ?_);intro w14 hk14 hg14 hz14
               have HS14 : Kept (Blk w14 g9 35 [.int .i64 0,.int .i64 0]):=kp hk14
               have HB14:=kp (HB13.out.grown hg14 hs13 (by intro k e;cases e;omega));have HK14:=kp (HK13.out.grown hg14 (by intro e;cases e;omega));have HPk14:=kp (HPk13.out.grown hg14 (by intro e;cases e;omega))
               have hd14 : w14.cell? ⟨g9,1,none⟩ = some (.int .i64 0):=HS14.out.cell 1
               clear hk14 hg14)
            | ((with_reducible show Sn);(refine j5 rfl 24 (.tmp 2) (.tmp 57) rfl gr (wtC (⟨some ⟨gp,0,none⟩,nt,nt,tu.map M.bp,(a : Int),(b : Int),(gl : Int)⟩ : Wt)) rfl rfl _ _ (HKa2.out.below HB14.out (by omega)) jD rfl (jU (⟨some ⟨gp,0,none⟩,nt,nt,tu.map M.bp,(a : Int),(b : Int),(gl : Int)⟩ : Wt)) ?_);intro wa hka hga hza
               have HKa:=kp hka;have HGa:=kp hga;have HKs:=kp ((HKb2.out.below HB14.out hl2).grown hga (by intro e;cases e;omega))
               clear hka hga)
            | ((with_reducible show Sn);(refine j5 rfl 35 (.tmp 3) (.tmp 58) rfl gs [.int .i64 0,.int .i64 0] rfl rfl _ _ HKs.out jR rfl (lA _ _) ?_);intro wb hkb hgb hzb
               have HKbb:=kp hkb;have HKab:=kp (HKa.out.grown hgb (by intro e;cases e;omega))
               have HBb : Kept (Below w.heap.size w wb):=kp (((HW2.out.trans (HB14.out.mono (by omega))).grown HGa.out (by have:=HB14.out.size;omega) (by intro k e;cases e;exact hgr)).grown hgb (by have:=HB14.out.size;omega) (by intro k e;cases e;omega))
               have HGb:=kp hgb
               clear hkb hgb)
            | ((with_reducible show bodyPost _ _ _ _ _ _)
               have HPkb : Kept (Blk wb gp 56 (cellsR 2 pkV (tu.map M.bp))):=kp ((HPk14.out.grown HGa.out (by intro e;cases e;omega)).grown HGb.out (by intro e;cases e;omega))
               exact bodyPost_ret (lT (P:=Try.prog) (fn:=Try.f14) rfl _ _ gr gs 24 35 _ _ _ _ rfl rfl HKab.out HKbb.out Try.underlying24 rfl jD Try.underlying35 rfl jR) rfl ⟨(⟨some ⟨gp,0,none⟩,nt,nt,tu.map M.bp,(a : Int),(b : Int),(gl : Int)⟩ : Wt),rfl,HWk.out wb HPkb.out,⟨rfl,rfl,rfl,rfl⟩,HBb.out⟩))
    · have hl4' : out.length = 4:=(HLong.out hw1).1
      have hte:=T.mark_not (HLong.out hw1).2 hmk
      obtain ⟨rfl,rfl,rfl⟩:=HForm.out hw1 hmk
      generalize out.length = lo at *
      subst hl4'
      clear hw1 hmk
      go_wp2_with (first
        | ((with_reducible show Sn);(refine j5 rfl 24 (.tmp 2) (.tmp 22) rfl gr (wtC wtNone) rfl rfl _ _ (HKa2.out.below HB4.out (by omega)) jD rfl (jU wtNone) ?_);intro wa hka hga hza
           have HKa:=kp hka;have HGa:=kp hga;have HKs:=kp ((HKb2.out.below HB4.out hl2).grown hga (by intro e;cases e;omega))
           clear hka hga)
        | ((with_reducible show Sn);(refine j5 rfl 35 (.tmp 3) (.tmp 23) rfl gs [.int .i64 0,.int .i64 3] rfl rfl _ _ HKs.out jR rfl (lA _ _) ?_);intro wb hkb hgb hzb
           have HKbb:=kp hkb;have HKab:=kp (HKa.out.grown hgb (by intro e;cases e;omega))
           have HBb : Kept (Below w.heap.size w wb):=kp (((HW2.out.trans (HB4.out.mono (by omega))).grown HGa.out (by have:=HB4.out.size;omega) (by intro k e;cases e;exact hgr)).grown hgb (by have:=HB4.out.size;omega) (by intro k e;cases e;omega))
           have HGb:=kp hgb
           clear hkb hgb)
        | ((with_reducible show bodyPost _ _ _ _ _ _);exact bodyPost_ret (lT (P:=Try.prog) (fn:=Try.f14) rfl _ _ gr gs 24 35 _ _ _ _ rfl rfl HKab.out HKbb.out Try.underlying24 rfl jD Try.underlying35 rfl jR) rfl ⟨wtNone,rfl,lF _ _,lD,HBb.out⟩))
  · have hnf : s1.why = 0 → out = T.mark:=fun h => absurd h hw1
    have hl0 : out = []:=HShort.out hw1
    subst hl0
    clear hw1
    go_wp2_with (go_at_call 34;fail)
    refine (uM g g A1 n c1 bs s1 HO1.out tu a b gl s2 s3 s4 s5 H2.out H3.out H4.out H5.out w4 HPd4.out HR4.out HB.out (by omega) hc3 HM3.out (Nat.le_refl _) (by omega)).mono ?_
    rintro e w5 ⟨v5,rfl,hown5,hk5,hg5,hok5⟩
    have HPd5:=kp hk5;have HB5:=kp (HB4.out.grown hg5 hs4 (by intro k e;cases e;exact hg3));have HOk5:=kp hok5
    have hs5:=HB5.out.size;have hl5:=hk5.lt;have hs45:=hg5.size
    obtain ⟨A6,c6,hv5,hc6,hm6,_⟩:=hown5.bytes
    subst hv5
    have HOw5:=kp hown5
    have hm66 : c6 ≤ 9223372036854775807:=by unfold maxLen at hm6;omega
    have hat5 : s5.at_ ≤ n:=by have h:=hok5.1;have h2:=HLb.out;omega
    clear hown5 hk5 hg5 hm6 hcv hok5
    go_wp2_with (first
      | ((with_reducible show Sl 7);go_must (refine j7 rfl 24 rfl _ lW ?_);intro g7 w6 hg7 hk6 hw6
         have HK6:=kp hk6;have HPd6:=kp (Blk.below HPd5.out hw6 hl5);have HB6:=kp (HB5.out.trans (hw6.mono hs5));have HOw6:=kp (HOw5.out.below hw6 (Nat.le_refl _));have NE7:=kp (Y2 HOw5.out hg7)
         have hs6:=HB6.out.size;have hs56:=hw6.size;have hl6:=hk6.lt
         clear hk6 hw6)
      | ((with_reducible show Sn);(refine j5 rfl 24 (.tmp 7) (.tmp 28) rfl g7 [.slice none 0 0,.int .i64 (a : Int),.int .i64 (b : Int),.int .i64 (gl : Int)] rfl rfl _ _ HK6.out jD rfl (jU ⟨none,0,0,[],(a : Int),(b : Int),(gl : Int)⟩) ?_);intro w7 hk7 hg7' hz7
         have HK7:=kp hk7;have HPd7:=kp (Blk.grown HPd6.out hg7' (by intro e;cases e;omega));have HB7:=kp (HB6.out.grown hg7' hs6 (by intro k e;cases e;omega));have HOw7:=kp (HOw6.out.far hg7' NE7.out)
         have hs7:=HB7.out.size;have hl7:=hk7.lt
         clear hk7 hg7')
      | (go_at_call 35;fail))
    refine (pd_done g A1 n c1 s5 w7 HPd7.out hat5 (by omega) s6 H6.out).mono ?_
    rintro e w8 ⟨rfl,hk8,hg8⟩
    have HPd8:=kp hk8;have HB8:=kp (HB7.out.grown hg8 hs7 (by intro k e;cases e;exact hg3));have HK8:=kp (HK7.out.grown hg8 (by intro e;cases e;omega));have HOw8:=kp (HOw7.out.far hg8 (JG HOw7.out (by omega)))
    have hs8:=HB8.out.size;have hs78:=hg8.size;have hl8:=HK8.out.lt
    clear hk8 hg8
    by_cases hw6 : s6.why = 0
    rotate_left
    · have hdw : decide (s6.why = 0) = false:=decide_eq_false hw6
      have hxe:=HX.out
      rw [T.read_fault (HNf.out hnf) (by rw [HFin.out];exact hw6),HFin.out] at hxe
      obtain ⟨rfl,h7⟩:=Prod.mk.inj hxe
      obtain ⟨rfl,rfl⟩:=Prod.mk.inj h7
      clear hxe h7 hw6
      go_wp2_with (go_at_call 36;fail)
      refine (pd_fault g A1 n c1 s6 HFit.out w8 HPd8.out).mono ?_
      rintro e w9 ⟨rfl,hb9⟩
      have HB9:=kp (HB8.out.trans (hb9.mono hs8))
      clear hb9
      go_wp2_with (first
        | ((with_reducible show Sn);(refine j5 rfl 24 (.tmp 2) (.tmp 32) rfl gr (wtC wtNone) rfl rfl _ _ (HKa2.out.below HB9.out (by omega)) jD rfl (jU wtNone) ?_);intro wa hka hga hza
           have HKa:=kp hka;have HGa:=kp hga;have HKs:=kp ((HKb2.out.below HB9.out hl2).grown hga (by intro e;cases e;omega))
           clear hka hga)
        | ((with_reducible show Sn);(refine j5 rfl 35 (.tmp 3) (.tmp 34) rfl gs [.int .i64 (s6.wh : Int),.int .i64 (s6.why : Int)] rfl rfl _ _ HKs.out jR rfl (lA _ _) ?_);intro wb hkb hgb hzb
           have HKbb:=kp hkb;have HKab:=kp (HKa.out.grown hgb (by intro e;cases e;omega))
           have HBb : Kept (Below w.heap.size w wb):=kp (((HW2.out.trans (HB9.out.mono (by omega))).grown HGa.out (by have:=HB9.out.size;omega) (by intro k e;cases e;exact hgr)).grown hgb (by have:=HB9.out.size;omega) (by intro k e;cases e;omega))
           have HGb:=kp hgb
           clear hkb hgb)
        | ((with_reducible show bodyPost _ _ _ _ _ _);exact bodyPost_ret (lT (P:=Try.prog) (fn:=Try.f14) rfl _ _ gr gs 24 35 _ _ _ _ rfl rfl HKab.out HKbb.out Try.underlying24 rfl jD Try.underlying35 rfl jR) rfl ⟨wtNone,rfl,lF _ _,lD,HBb.out⟩))
    have hdw : decide (s6.why = 0) = true:=decide_eq_true hw6
    obtain ⟨ht1,ha7,hb7,hg15⟩:=HTu.out hw6
    have HRd : Kept (∀ Q : Prop,(¬ ((T.h0 bs).2.why = 0 ∧ (T.h0 bs).1 ≠ T.mark) → (T.fin bs).why = 0 → Q) → Q):=kp (fun Q h => h (HNf.out hnf) (by rw [HFin.out];exact hw6))
    have HP2 : Kept ((T.p2 bs (T.h0 bs).2).1 = tu):=kp (by rw [HE0.out,H2.out])
    have HP3 : Kept ((T.p3 bs (T.h0 bs).2).1 = a):=kp (by rw [HE0.out,H3.out])
    have HP4 : Kept ((T.p4 bs (T.h0 bs).2).1 = b):=kp (by rw [HE0.out,H4.out])
    have HP5 : Kept ((T.p5 bs (T.h0 bs).2).1 = gl):=kp (by rw [HE0.out,H5.out])
    have HPick : Kept ((∃ x ∈ tu,16 ≤ x) → d = T.none_ ∧ n = at_ ∧ why = 3):=kp (fun h => by
      have hx:=HX.out
      rw [HRd.out _ fun q1 q2 => T.read_pick q1 q2 (by rw [HP2.out];exact h)] at hx
      rw [HLb.out] at hx
      cases hx;exact ⟨rfl,rfl,rfl⟩)
    have HAlike : Kept ((∀ x ∈ tu,x < 16) → a = b → d = T.none_ ∧ n = at_ ∧ why = 1):=kp (fun h h' => by
      have hx:=HX.out
      rw [HRd.out _ fun q1 q2 => T.read_alike q1 q2 (by rw [HP2.out];rintro ⟨x,hx,h16⟩;have:=h x hx;omega) (by rw [HP3.out,HP4.out];exact h')] at hx
      rw [HLb.out] at hx
      cases hx;exact ⟨rfl,rfl,rfl⟩)
    have HFine : Kept ((∀ x ∈ tu,x < 16) → a ≠ b → d = ⟨tu.map M.bp,a,b,gl⟩ ∧ at_ = 0 ∧ why = 0):=kp (fun h h' => by
      have hx:=HX.out
      rw [HRd.out _ fun q1 q2 => T.read_fine q1 q2 (by rw [HP2.out];rintro ⟨x,hx,h16⟩;have:=h x hx;omega) (by rw [HP3.out,HP4.out];exact h')] at hx
      rw [HP2.out,HP3.out,HP4.out,HP5.out] at hx
      cases hx;exact ⟨rfl,rfl,rfl⟩)
    clear hw6
    obtain ⟨nt,hnt⟩ : ∃ nt,tu.length = nt:=⟨_,rfl⟩
    rw [hnt] at ht1 HOw8 ⊢
    have HNt:=kp hnt
    have HT8 : Kept (Row byteV w8 w8.heap.size A6 nt tu):=kp (by
      obtain ⟨A6',c6',e,_,_,hr⟩:=Own.readsN HOw8.out hnt
      cases e
      exact hr)
    clear hnt
    go_wp2_with (go_at_call 37;fail)
    refine (sc_get w8.heap.size A6 nt c6 tu w8 HT8.out HTub.out (by omega) (Nat.le_refl _)).mono ?_
    rintro e w9 ⟨h,hb9⟩
    have HB9:=kp (HB8.out.trans (hb9.mono hs8));have HK9:=kp (HK8.out.below hb9 hl8)
    have hs9:=HB9.out.size;have hl9:=HK9.out.lt;have hs89:=hb9.size
    clear hb9
    rcases h with ⟨h4,_⟩ | ⟨_,i,x,hi,h16,_,rfl⟩ | ⟨_,hall,gp,rfl,hgp,hkp⟩
    · omega
    · obtain ⟨rfl,rfl,rfl⟩:=HPick.out ⟨x,List.mem_of_getElem? hi,h16⟩
      clear hi h16
      go_wp2_with (first
        | ((with_reducible show Sl 9);go_must (refine j7 rfl 35 rfl _ lY ?_);intro g9 w10 hg9 hk10 hw10
           have HS10:=kp hk10;have HB10:=kp (HB9.out.trans (hw10.mono hs9));have HK10:=kp (HK9.out.below hw10 hl9)
           have hs10:=HB10.out.size;have hs910:=hw10.size;have hl10:=hk10.lt
           clear hk10 hw10)
        | ((with_reducible show Sn);(refine j5 rfl 35 (.tmp 9) (.tmp 39) rfl g9 [.int .i64 (i : Int),.int .i64 3] rfl rfl _ _ HS10.out jR rfl (lA _ _) ?_);intro w11 hk11 hg11 hz11
           have HS11:=kp hk11;have HB11:=kp (HB10.out.grown hg11 hs10 (by intro k e;cases e;omega));have HK11:=kp (HK10.out.grown hg11 (by intro e;cases e;omega))
           have hs11:=HB11.out.size;have hl11:=HK11.out.lt
           clear hk11 hg11)
        | ((with_reducible show Sn);(refine j9 rfl 22 (.tmp 41) (.tmp 40) rfl g7 0 (.slice none 0 0) rfl rfl rfl rfl _ _ HK11.out (show 0 < 4 by omega) yM ?_);intro w12 hk12 hg12 hz12
           have HK12 : Kept (Blk w12 g7 24 [.slice none 0 0,.int .i64 (a : Int),.int .i64 (b : Int),.int .i64 (gl : Int)]):=kp hk12
           have HS12:=kp (HS11.out.grown hg12 (by intro e;cases e;omega));have HB12:=kp (HB11.out.grown hg12 hs11 (by intro k e;cases e;omega))
           have hs12:=HB12.out.size;have hl12:=hk12.lt;have hs912 : w9.heap.size ≤ w12.heap.size:=by omega
           have hd1 : w12.cell? ⟨g9,1,none⟩ = some (.int .i64 3):=HS12.out.cell 1
           clear hk12 hg12)
        | fail)
      have HKaz:=kp (HKa2.out.below HB12.out (by omega));have HKbz:=kp (HKb2.out.below HB12.out hl2)
      have hszw:=HB12.out.size
      have hlaz:=HKaz.out.lt;have hlbz:=HKbz.out.lt;have hlsz:=HS12.out.lt
      clear hd1
      apply qD (fun k => k = gr ∨ k = gs) [6,7] (phs ([fun W => Blk W gr 24 (wtC wtNone) ∧ Blk W gs 35 [.int .i64 0,.int .i64 0],fun W => Blk W gr 24 (wtC wtNone) ∧ Blk W gs 35 [.int .i64 0,.int .i64 0],fun W => Blk W gr 24 (wtC wtNone) ∧ Blk W gs 35 [.int .i64 (n : Int),.int .i64 3]])) (.is _ :: .is _ :: .is _ :: .is _ :: .is _ :: .is _ :: .any _ :: .any _ :: [])
        [[],[],[(1,52)],[],[(3,54)],[(2,53),(4,55)],[(0,51)],[(5,56)]]
        [(0,51),(1,52),(2,53),(3,54),(4,55),(5,56)] (by kernel_rfl) (by kernel_rfl) (by kernel_rfl) (by decide)
      case h0 => exact ⟨HKaz.out,HKbz.out⟩
      case hob =>
        refine jE rfl ?o0 (jE rfl ?o1 (jE rfl ?o2 (jE rfl ?o3 (jE rfl ?o4 (jE rfl ?o5 (qL 0 rfl rfl ?o6 (qL 1 rfl rfl ?o7 (xH))))))))
        case o0 => intro p W hO hJ;change wpList _ _ _ _ _ _;go_wp2;exact j8 rfl rfl rfl hJ
        case o1 => intro p W hO hJ;change wpList _ _ _ _ _ _;go_wp2;exact j8 rfl rfl rfl hJ
        case o2 => intro p W hO hJ;rintro _ rfl;change wpList _ _ _ _ _ _;go_wp2;exact j8 rfl rfl rfl hJ
        case o3 => intro p W hO hJ;change wpList _ _ _ _ _ _;go_wp2;exact j8 rfl rfl rfl hJ
        case o4 =>
          intro p W hO hJ;rintro _ rfl;change wpList _ _ _ _ _ _
          have hq : W.cell? ⟨g9,1,none⟩ = some (.int .i64 3):=(hO.blk HS12.out (by omega)).cell 1
          go_wp2;exact j8 rfl rfl rfl hJ
        case o5 => intro p W hO hJ;rintro _ rfl;rintro _ rfl;change wpList _ _ _ _ _ _;go_wp2;exact j8 rfl rfl rfl hJ
        case o6 =>
          intro W hO hJ;rintro _ rfl;change wpList _ _ _ _ _ _
          have hj : Blk W gr 24 (wtC wtNone) ∧ Blk W gs 35 [.int .i64 0,.int .i64 0]:=hJ
          refine j5 rfl 24 (.tmp 2) (.tmp 51) rfl gr (wtC wtNone) rfl rfl _ _ hj.1 jD rfl (jU wtNone) ?_
          intro wa hka hga hza
          go_wp2
          exact l8 rfl (Only.of_grown hga (.inl rfl)) ⟨hka,hj.2.grown hga (by intro e;cases e;omega)⟩
        case o7 =>
          intro W hO hJ;rintro _ rfl;change wpList _ _ _ _ _ _
          have hj : Blk W gr 24 (wtC wtNone) ∧ Blk W gs 35 [.int .i64 0,.int .i64 0]:=hJ
          refine j5 rfl 35 (.tmp 3) (.tmp 56) rfl gs [.int .i64 (n : Int),.int .i64 3] rfl rfl _ _ hj.2 jR rfl (lA _ _) ?_
          intro wa hka hga hza
          go_wp2
          exact l8 rfl (Only.of_grown hga (.inr rfl)) ⟨hj.1.grown hga (by intro e;cases e;omega),hka⟩
      case hend =>
        intro W hO hJ;rintro _ rfl;rintro _ rfl;rintro _ rfl;rintro _ rfl;rintro _ rfl;rintro _ rfl
        simp only [ggiven,jJ,List.set]
        have hj : Blk W gr 24 (wtC wtNone) ∧ Blk W gs 35 [.int .i64 (n : Int),.int .i64 3]:=hJ
        have HKab:=kp hj.1;have HKbb:=kp hj.2
        have HBb : Kept (Below w.heap.size w W):=kp ((HW2.out.trans (HB12.out.mono (by omega))).trans (hO.below (by omega) (fun k hk => by rcases hk with rfl | rfl <;> omega)))
        clear hj hJ hO
        go_wp2_with ((with_reducible show bodyPost _ _ _ _ _ _);exact bodyPost_ret (lT (P:=Try.prog) (fn:=Try.f14) rfl _ _ gr gs 24 35 _ _ _ _ rfl rfl HKab.out HKbb.out Try.underlying24 rfl jD Try.underlying35 rfl jR) rfl ⟨wtNone,rfl,lF _ _,lD,HBb.out⟩)
    · have HAll:=kp hall
      have hlp:=hkp.lt
      have HPk9 : Kept (Blk w9 gp 56 (cellsR 2 pkV (tu.map M.bp))):=kp hkp
      clear hall hkp
      go_wp2_with (first
        | ((with_reducible show Sl 9);go_must (refine j7 rfl 35 rfl _ lY ?_);intro g9 w10 hg9 hk10 hw10
           have HS10:=kp hk10;have HB10:=kp (HB9.out.trans (hw10.mono hs9));have HK10:=kp (HK9.out.below hw10 hl9);have HPk10:=kp (HPk9.out.below hw10 hlp)
           have hs10:=HB10.out.size;have hs910:=hw10.size;have hl10:=hk10.lt
           clear hk10 hw10)
        | ((with_reducible show Sn);(refine j5 rfl 35 (.tmp 9) (.tmp 39) rfl g9 [.int .i64 0,.int .i64 0] rfl rfl _ _ HS10.out jR rfl (lA _ _) ?_);intro w11 hk11 hg11 hz11
           have HS11:=kp hk11;have HB11:=kp (HB10.out.grown hg11 hs10 (by intro k e;cases e;omega));have HK11:=kp (HK10.out.grown hg11 (by intro e;cases e;omega));have HPk11:=kp (HPk10.out.grown hg11 (by intro e;cases e;omega))
           have hs11:=HB11.out.size;have hl11:=HK11.out.lt
           clear hk11 hg11)
        | ((with_reducible show Sn);(refine j9 rfl 22 (.tmp 41) (.tmp 40) rfl g7 0 (.slice (some ⟨gp,0,none⟩) nt nt) rfl rfl rfl rfl _ _ HK11.out (show 0 < 4 by omega) yM ?_);intro w12 hk12 hg12 hz12
           have HK12 : Kept (Blk w12 g7 24 [.slice (some ⟨gp,0,none⟩) nt nt,.int .i64 (a : Int),.int .i64 (b : Int),.int .i64 (gl : Int)]):=kp hk12
           have HS12:=kp (HS11.out.grown hg12 (by intro e;cases e;omega));have HB12:=kp (HB11.out.grown hg12 hs11 (by intro k e;cases e;omega));have HPk12:=kp (HPk11.out.grown hg12 (by intro e;cases e;omega))
           have hs12:=HB12.out.size;have hl12:=hk12.lt;have hs912 : w9.heap.size ≤ w12.heap.size:=by omega
           have hd1 : w12.cell? ⟨g9,1,none⟩ = some (.int .i64 0):=HS12.out.cell 1
           clear hk12 hg12)
        | ((with_reducible show Sl 45);go_must (refine j4 rfl 24 (.tmp 7) rfl g7 rfl _ [.slice (some ⟨gp,0,none⟩) nt nt,.int .i64 (a : Int),.int .i64 (b : Int),.int .i64 (gl : Int)] _ HK12.out Try.underlying24 rfl jD ?_))
        | (go_at_call 12;fail))
      have hnt' : (tu.map M.bp).length = nt:=by rw [List.length_map];exact HNt.out
      have HWk : Kept (∀ W,Blk W gp 56 (cellsR 2 pkV (tu.map M.bp)) → Wt.Ok (⟨some ⟨gp,0,none⟩,nt,nt,tu.map M.bp,(a : Int),(b : Int),(gl : Int)⟩ : Wt) W W.heap.size):=kp (fun W hW => ⟨Blk.picks hW hnt' (Nat.le_refl _) (fun x hx => by
        obtain ⟨y,_,rfl⟩:=List.mem_map.1 hx
        obtain ⟨h1,h2⟩:=M.bp_ok y
        unfold I64;omega),Nat.le_refl _,by show nt ≤ maxLen;unfold maxLen;omega,by show I64 (a : Int);unfold I64;omega,by show I64 (b : Int);unfold I64;omega,by show I64 (gl : Int);unfold I64;omega⟩)
      have HOkp : Kept (∀ x ∈ tu.map M.bp,M.okP x):=kp (fun x hx => by
        obtain ⟨y,_,rfl⟩:=List.mem_map.1 hx
        exact M.bp_ok y)
      have HL4 : Kept ((tu.map M.bp).length ≤ 4096):=kp (by rw [hnt'];exact ht1)
      clear hnt'
      by_cases hab : a = b
      · have HCk : Kept (Wt.check (⟨some ⟨gp,0,none⟩,nt,nt,tu.map M.bp,(a : Int),(b : Int),(gl : Int)⟩ : Wt) = 1):=kp (T.check_nums HL4.out (show T.okN (a : Int) (b : Int) (gl : Int) = false by unfold T.okN;exact decide_eq_false (by omega)))
        obtain ⟨rfl,rfl,rfl⟩:=HAlike.out HAll.out hab
        refine (xF w12.heap.size (⟨some ⟨gp,0,none⟩,nt,nt,tu.map M.bp,(a : Int),(b : Int),(gl : Int)⟩ : Wt) w12 (HWk.out w12 HPk12.out) (by show nt ≤ 5000;omega) (Nat.le_refl _) 1 HCk.out).mono ?_
        rintro e w13 ⟨rfl,hb13⟩
        have HB13:=kp (HB12.out.trans (hb13.mono hs12));have HS13:=kp (HS12.out.below hb13 HS12.out.lt)
        have hs13:=HB13.out.size;have hs1213:=hb13.size
        clear hb13 hd1
        go_wp2_with (first
          | ((with_reducible show Sn);(refine j9 rfl 27 (.tmp 47) (.tmp 46) rfl g9 1 (.int .i64 1) rfl rfl rfl rfl _ _ HS13.out (show 1 < 2 by omega) XR ?_);intro w14 hk14 hg14 hz14
             have HS14 : Kept (Blk w14 g9 35 [.int .i64 0,.int .i64 1]):=kp hk14
             have HB14:=kp (HB13.out.grown hg14 hs13 (by intro k e;cases e;omega))
             have hd14 : w14.cell? ⟨g9,1,none⟩ = some (.int .i64 1):=HS14.out.cell 1
             clear hk14 hg14)
          | fail)
        have HKaz:=kp (HKa2.out.below HB14.out (by omega));have HKbz:=kp (HKb2.out.below HB14.out hl2)
        have hszw:=HB14.out.size
        have hlaz:=HKaz.out.lt;have hlbz:=HKbz.out.lt;have hlsz:=HS14.out.lt
        clear hd14
        apply qD (fun k => k = gr ∨ k = gs) [6,7] (phs ([fun W => Blk W gr 24 (wtC wtNone) ∧ Blk W gs 35 [.int .i64 0,.int .i64 0],fun W => Blk W gr 24 (wtC wtNone) ∧ Blk W gs 35 [.int .i64 0,.int .i64 0],fun W => Blk W gr 24 (wtC wtNone) ∧ Blk W gs 35 [.int .i64 (n : Int),.int .i64 1]])) (.is _ :: .is _ :: .is _ :: .is _ :: .is _ :: .is _ :: .any _ :: .any _ :: [])
          [[],[],[(1,52)],[],[(3,54)],[(2,53),(4,55)],[(0,51)],[(5,56)]]
          [(0,51),(1,52),(2,53),(3,54),(4,55),(5,56)] (by kernel_rfl) (by kernel_rfl) (by kernel_rfl) (by decide)
        case h0 => exact ⟨HKaz.out,HKbz.out⟩
        case hob =>
          refine jE rfl ?o0 (jE rfl ?o1 (jE rfl ?o2 (jE rfl ?o3 (jE rfl ?o4 (jE rfl ?o5 (qL 0 rfl rfl ?o6 (qL 1 rfl rfl ?o7 (xH))))))))
          case o0 => intro p W hO hJ;change wpList _ _ _ _ _ _;go_wp2;exact j8 rfl rfl rfl hJ
          case o1 => intro p W hO hJ;change wpList _ _ _ _ _ _;go_wp2;exact j8 rfl rfl rfl hJ
          case o2 => intro p W hO hJ;rintro _ rfl;change wpList _ _ _ _ _ _;go_wp2;exact j8 rfl rfl rfl hJ
          case o3 => intro p W hO hJ;change wpList _ _ _ _ _ _;go_wp2;exact j8 rfl rfl rfl hJ
          case o4 =>
            intro p W hO hJ;rintro _ rfl;change wpList _ _ _ _ _ _
            have hq : W.cell? ⟨g9,1,none⟩ = some (.int .i64 1):=(hO.blk HS14.out (by omega)).cell 1
            go_wp2;exact j8 rfl rfl rfl hJ
          case o5 => intro p W hO hJ;rintro _ rfl;rintro _ rfl;change wpList _ _ _ _ _ _;go_wp2;exact j8 rfl rfl rfl hJ
          case o6 =>
            intro W hO hJ;rintro _ rfl;change wpList _ _ _ _ _ _
            have hj : Blk W gr 24 (wtC wtNone) ∧ Blk W gs 35 [.int .i64 0,.int .i64 0]:=hJ
            refine j5 rfl 24 (.tmp 2) (.tmp 51) rfl gr (wtC wtNone) rfl rfl _ _ hj.1 jD rfl (jU wtNone) ?_
            intro wa hka hga hza
            go_wp2
            exact l8 rfl (Only.of_grown hga (.inl rfl)) ⟨hka,hj.2.grown hga (by intro e;cases e;omega)⟩
          case o7 =>
            intro W hO hJ;rintro _ rfl;change wpList _ _ _ _ _ _
            have hj : Blk W gr 24 (wtC wtNone) ∧ Blk W gs 35 [.int .i64 0,.int .i64 0]:=hJ
            refine j5 rfl 35 (.tmp 3) (.tmp 56) rfl gs [.int .i64 (n : Int),.int .i64 1] rfl rfl _ _ hj.2 jR rfl (lA _ _) ?_
            intro wa hka hga hza
            go_wp2
            exact l8 rfl (Only.of_grown hga (.inr rfl)) ⟨hj.1.grown hga (by intro e;cases e;omega),hka⟩
        case hend =>
          intro W hO hJ;rintro _ rfl;rintro _ rfl;rintro _ rfl;rintro _ rfl;rintro _ rfl;rintro _ rfl
          simp only [ggiven,jJ,List.set]
          have hj : Blk W gr 24 (wtC wtNone) ∧ Blk W gs 35 [.int .i64 (n : Int),.int .i64 1]:=hJ
          have HKab:=kp hj.1;have HKbb:=kp hj.2
          have HBb : Kept (Below w.heap.size w W):=kp ((HW2.out.trans (HB14.out.mono (by omega))).trans (hO.below (by omega) (fun k hk => by rcases hk with rfl | rfl <;> omega)))
          clear hj hJ hO
          go_wp2_with ((with_reducible show bodyPost _ _ _ _ _ _);exact bodyPost_ret (lT (P:=Try.prog) (fn:=Try.f14) rfl _ _ gr gs 24 35 _ _ _ _ rfl rfl HKab.out HKbb.out Try.underlying24 rfl jD Try.underlying35 rfl jR) rfl ⟨wtNone,rfl,lF _ _,lD,HBb.out⟩)
      · have HCk : Kept (Wt.check (⟨some ⟨gp,0,none⟩,nt,nt,tu.map M.bp,(a : Int),(b : Int),(gl : Int)⟩ : Wt) = 0):=kp (T.check_fine HL4.out HOkp.out (show T.okN (a : Int) (b : Int) (gl : Int) = true from T.okN_iff.2 ⟨by omega,by omega,by omega,by omega,by omega,by omega,by omega⟩))
        obtain ⟨rfl,rfl,rfl⟩:=HFine.out HAll.out hab
        refine (xF w12.heap.size (⟨some ⟨gp,0,none⟩,nt,nt,tu.map M.bp,(a : Int),(b : Int),(gl : Int)⟩ : Wt) w12 (HWk.out w12 HPk12.out) (by show nt ≤ 5000;omega) (Nat.le_refl _) 0 HCk.out).mono ?_
        rintro e w13 ⟨rfl,hb13⟩
        have HB13:=kp (HB12.out.trans (hb13.mono hs12));have HS13:=kp (HS12.out.below hb13 HS12.out.lt);have HK13:=kp (HK12.out.below hb13 hl12);have HPk13:=kp (HPk12.out.below hb13 HPk12.out.lt)
        have hs13:=HB13.out.size;have hs1213:=hb13.size
        clear hb13 hd1
        go_wp2_with (first
          | ((with_reducible show Sl 57);go_must (refine j4 rfl 24 (.tmp 7) rfl g7 rfl _ [.slice (some ⟨gp,0,none⟩) nt nt,.int .i64 (a : Int),.int .i64 (b : Int),.int .i64 (gl : Int)] _ HK14.out Try.underlying24 rfl jD ?_))
          | ((with_reducible show Sn);(refine j9 rfl 27 (.tmp 47) (.tmp 46) rfl g9 1 (.int .i64 0) rfl rfl rfl rfl _ _ HS13.out (show 1 < 2 by omega) XR ?_);intro w14 hk14 hg14 hz14
             have HS14 : Kept (Blk w14 g9 35 [.int .i64 0,.int .i64 0]):=kp hk14
             have HB14:=kp (HB13.out.grown hg14 hs13 (by intro k e;cases e;omega));have HK14:=kp (HK13.out.grown hg14 (by intro e;cases e;omega));have HPk14:=kp (HPk13.out.grown hg14 (by intro e;cases e;omega))
             have hd14 : w14.cell? ⟨g9,1,none⟩ = some (.int .i64 0):=HS14.out.cell 1
             clear hk14 hg14)
          | ((with_reducible show Sn);(refine j5 rfl 24 (.tmp 2) (.tmp 57) rfl gr (wtC (⟨some ⟨gp,0,none⟩,nt,nt,tu.map M.bp,(a : Int),(b : Int),(gl : Int)⟩ : Wt)) rfl rfl _ _ (HKa2.out.below HB14.out (by omega)) jD rfl (jU (⟨some ⟨gp,0,none⟩,nt,nt,tu.map M.bp,(a : Int),(b : Int),(gl : Int)⟩ : Wt)) ?_);intro wa hka hga hza
             have HKa:=kp hka;have HGa:=kp hga;have HKs:=kp ((HKb2.out.below HB14.out hl2).grown hga (by intro e;cases e;omega))
             clear hka hga)
          | ((with_reducible show Sn);(refine j5 rfl 35 (.tmp 3) (.tmp 58) rfl gs [.int .i64 0,.int .i64 0] rfl rfl _ _ HKs.out jR rfl (lA _ _) ?_);intro wb hkb hgb hzb
             have HKbb:=kp hkb;have HKab:=kp (HKa.out.grown hgb (by intro e;cases e;omega))
             have HBb : Kept (Below w.heap.size w wb):=kp (((HW2.out.trans (HB14.out.mono (by omega))).grown HGa.out (by have:=HB14.out.size;omega) (by intro k e;cases e;exact hgr)).grown hgb (by have:=HB14.out.size;omega) (by intro k e;cases e;omega))
             have HGb:=kp hgb
             clear hkb hgb)
          | ((with_reducible show bodyPost _ _ _ _ _ _)
             have HPkb : Kept (Blk wb gp 56 (cellsR 2 pkV (tu.map M.bp))):=kp ((HPk14.out.grown HGa.out (by intro e;cases e;omega)).grown HGb.out (by intro e;cases e;omega))
             exact bodyPost_ret (lT (P:=Try.prog) (fn:=Try.f14) rfl _ _ gr gs 24 35 _ _ _ _ rfl rfl HKab.out HKbb.out Try.underlying24 rfl jD Try.underlying35 rfl jR) rfl ⟨(⟨some ⟨gp,0,none⟩,nt,nt,tu.map M.bp,(a : Int),(b : Int),(gl : Int)⟩ : Wt),rfl,HWk.out wb HPkb.out,⟨rfl,rfl,rfl,rfl⟩,HBb.out⟩))
end Go.Proofs.Ytcbfghcdbmlneaa
