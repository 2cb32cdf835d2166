/- ProgP5, ProgP, ProgLaw1, ProgLaw2, ProgOrd, GraphOrd, GraphAfter, GraphRef2, GraphRef3, GraphReach. -/
import Derived.Test.YtoekiejipdabmaaDoorProgP3
import Derived.Test.YtoekiejipdabmaaDoorProgP4
import Derived.Test.YtoekiejipdabmaaDoorPk2
import Derived.Test.YtoekiejipdabmaaDoorProgRef5
import Derived.BigQuiet
namespace Go.Proofs.YtoekiejipdabmaaDoor
open Go.RowKit
set_option maxRecDepth 1000000 in
set_option maxHeartbeats 8000000 in
theorem vR (B : Nat) (p : Pg) (w : World) (hp : p.Ok w B) (hB : B ≤ w.heap.size) (hco : Q.Counts p) (hfine : ∀ j,j < p.fns.length → ¬ Q.badFn p j) (a b : Int) (c : Nat) (hc : Q.check p = (a,b,c)) :
    Calls Tryd.prog 47 #[pgA p] w fun e w' => e = .returned (.tuple #[.int .i64 a,.int .i64 b,.int .i64 (c : Int)]) ∧ Below w.heap.size w w':=by
  have HP:=kp hp;have HC:=kp hc;have HCo:=kp hco;have HFine:=kp hfine
  have HFit:=kp (vB hfine)
  have hlen:=hp.row.len
  have HLen:=kp hlen
  have h16 : p.len ≤ 16:=by rw [← hlen];exact hco.f.2
  have hlc:=hp.lc;have hcm:=hp.cm
  unfold maxLen at hcm
  have hcm9 : p.cap ≤ 9223372036854775807:=by omega
  clear hp hfine hlen hcm hc hco
  rw [jM]
  go_enter Tryd.func47,Tryd.ntmps47
  go_wp2_with (first
    | ((with_reducible refine j4 rfl 24 (.tmp 0) rfl (pgC p) rfl ?_);intro g1 w1 hg1 hk1 hw1;have HK1:=kp hk1;have HW1:=kp hw1;have hs1:=hw1.size;have HP1:=kp (HP.out.below (hw1.mono hB));clear hg1 hk1 hw1)
    | ((with_reducible show Sl 10);go_must (refine j6 rfl 24 (.tmp 1) rfl g1 rfl _ (pgC p) _ HK1.out Tryd.underlying24 rfl jL ?_))
    | (go_at_call 67;go_must (refine (JE B p _ HP1.out (by omega) HFit.out h16).mono ?_);rintro e9 w2 ⟨L,rfl,hL,hent,hw2⟩;have HL:=kp hL;have HEnt:=kp hent;have HKp2:=kp (HK1.out.below hw2 HK1.out.lt);have HW2:=kp (HW1.out.trans (hw2.mono hs1));have hs2:=HW2.out.size;clear hL hent hw2)
    | ((with_reducible show Sl 5);go_must (refine j7 rfl 123 rfl (relC (List.replicate 256 false)) uC ?_);intro g3 w3 hg3 hk3 hw3;have HG3:=kp hg3;have HK3:=kp hk3;have HW3:=kp hw3;clear hg3 hk3 hw3)
    | ((with_reducible show Sn);go_must (refine j5 rfl 123 (.tmp 5) (.tmp 11) rfl g3 (relC L) rfl rfl _ _ HK3.out (by rw [qH,HL.out];exact zD) (by rw [qH,qH,HL.out,List.length_replicate]) (L7 L) ?_);intro w4 hk4 hg4 _
       have HK4:=kp hk4
       have HB24:=kp (HW3.out.grown hg4 HW3.out.size (fun k hk => by cases hk;exact HG3.out))
       have HKp4:=kp (HKp2.out.below HB24.out HKp2.out.lt)
       obtain ⟨hc0,hc1,hc2,hc3⟩:=j8 HKp4.out
       have HW4:=kp (HW2.out.trans (HB24.out.mono hs2))
       have hs4:=HW4.out.size
       clear hk4 hg4))
  clear hc0 hc1 hc2 hc3
  have HP4:=kp (HP.out.below (HW4.out.mono hB))
  have hB4 : B ≤ w4.heap.size:=by omega
  go_loopw [15] (fun v15 wr => ∃ f : Nat,f ≤ p.len ∧ v15 = .int .i64 f ∧ (∀ j,j < f → ¬ Q.badRound p j) ∧ Below w4.heap.size w4 wr) (fun v15 _ => p.len - (intOf v15).toNat)
  case atStart => exact ⟨0,by omega,rfl,fun j hj => by omega,Below.refl _ _⟩
  case round =>
    obtain ⟨f,hf,rfl,hpre,hbl⟩:=hrel
    have HPre:=kp hpre;have HBL:=kp hbl
    have HPr:=kp (HP4.out.below (hbl.mono hB4))
    clear hpre hbl
    by_cases hlt : f < p.len
    · obtain ⟨ad,fn,e1,hab0,hx,hok0,hcf⟩:=HPr.out.fn hlt
      rw [e1]
      have HE1:=kp e1
      clear e1
      have HX:=kp hx
      obtain ⟨hf0,hf64,hmays⟩:=Q.fine_fn hx (HFine.out f (by rw [HLen.out];exact hlt))
      have hfl:=hok0.nodes.1.len
      have hfc:=hok0.lc;have hfm:=hok0.cm
      unfold maxLen at hfm
      have hfm9 : fn.cap ≤ 9223372036854775807:=by omega
      rw [hfl] at hf64
      have HMays:=kp hmays
      have HFl:=kp hfl
      clear hx hok0 hfm hf0 hmays hfl
      go_wp2
      clear hcf
      go_loopw [22] (fun v22 wq => ∃ i : Nat,i ≤ fn.len ∧ v22 = .int .i64 i ∧ (∀ j,j < i → ¬ Q.roundAt p f j) ∧ Below w4.heap.size w4 wq) (fun v22 _ => fn.len - (intOf v22).toNat)
      case atStart => exact ⟨0,by omega,rfl,fun j hj => by omega,HBL.out⟩
      case round =>
        clear HBL HPr
        obtain ⟨i,hi,rfl,hpre,hbl⟩:=hrel
        have HPreI:=kp hpre;have HBL:=kp hbl
        have hszq:=hbl.size
        obtain ⟨ad',fn',e1',hab,hx',hok,_⟩:=(HP4.out.below (hbl.mono hB4)).fn hlt
        rw [HE1.out] at e1'
        cases e1'
        rw [HX.out] at hx'
        cases hx'
        have HK:=kp (HK4.out.below hbl HK4.out.lt)
        clear hpre hbl
        by_cases hli : i < fn.len
        · obtain ⟨bd,x,e3,hbb,hy,hxok,hn0,hn1,hn2,hn3⟩:=hok.nodes.get hli
          rw [e3]
          have HY:=kp hy
          clear hok hy hxok e3
          by_cases h7 : x.kind = 7
          · have hz7 : (x.kind == 7) = true:=by simpa using h7
            obtain ⟨ha0,han⟩:=uK (HMays.out i x HY.out) h7
            obtain ⟨k,hk⟩ : ∃ k : Nat,x.arg = (k : Int):=⟨x.arg.toNat,by omega⟩
            have hkn : k < p.len:=by omega
            have hk16 : k < 16:=by omega
            have hf16 : f < 16:=by omega
            obtain ⟨v,hv,hev⟩:=Q.ent_at HL.out hk16 hf16
            have HV:=kp hv
            have HRd : Kept (Q.roundAt p f i ↔ v = true):=kp <| by
              rw [← hev,HEnt.out k f hk16 hf16]
              unfold Q.roundAt
              have hcall : Q.calls p f k:=⟨fn,HX.out,x,List.mem_of_getElem? HY.out,h7,hk⟩
              constructor
              · rintro ⟨fn2,nd,g1',g2',_,k2,g4,g5,g6⟩
                rw [HX.out] at g1'
                cases g1'
                rw [HY.out] at g2'
                cases g2'
                have : k2 = k:=by omega
                subst this
                rcases g6 with g6 | g6
                · subst g6
                  exact .one hcall
                · rw [HLen.out] at g6
                  exact Q.reach_more h16 g6
              · intro h
                refine ⟨fn,x,HX.out,HY.out,h7,k,hk,by rw [HLen.out];exact hkn,.inr ?_⟩
                rw [HLen.out]
                exact Q.reach_less (Q.calls_lt HFit.out) h
            have HKx:=kp hk
            have hfi : (f : Int) < (16 : Int):=by omega
            have hki : (k : Int) < (16 : Int):=by omega
            have hf0 : (0 : Int) ≤ (f : Int):=by omega
            have hk0 : (0 : Int) ≤ (k : Int):=by omega
            clear h7 ha0 han hk hv hev
            cases v
            · have HNx : Kept (∀ j,j < i + 1 → ¬ Q.roundAt p f j):=kp fun j hj h => by
                by_cases e : j = i
                · subst e
                  have:=HRd.out.1 h
                  cases this
                · exact HPreI.out j (by omega) h
              go_wp2_with (first
                | ((with_reducible show Sl 9);go_must (refine j7 rfl 66 rfl (ndC ⟨0,0,0,0⟩) jU ?_);intro g5 w6 hg5 hk6 hw6;have HG5:=kp hg5;have HK6:=kp hk6;have HW6:=kp hw6;clear hg5 hk6 hw6)
                | ((with_reducible show Sn);go_must (refine j5 rfl 66 (.tmp 9) (.tmp 26) rfl g5 (ndC x) rfl rfl _ _ HK6.out jD rfl (jK x) ?_);intro w7 hk7 hg7 hs7
                   obtain ⟨hx0,hx1,hx2,hx3⟩:=jB hk7
                   have HBq7:=kp (HW6.out.grown hg7 HW6.out.size (fun k hk => by cases hk;exact HG5.out))
                   have HB7:=kp (HBL.out.trans (HBq7.out.mono hszq))
                   have hcv:=((HK.out.below HBq7.out HK.out.lt).cell (k * 16 + f)).trans (lR HV.out)
                   rw [HKx.out] at hx1
                   clear hk7 hg7 hs7 hn0 hn1 hn2 hn3))
              go_roundw
              case rel => exact ⟨i + 1,by omega,by go_num,HNx.out,HB7.out⟩
              case measure => simp [intOf];omega
            · have HE:=kp (lB HC.out (Q.check_round HCo.out HFine.out (HRd.out.2 rfl) (by omega) (by rw [HLen.out];exact hlt) HPre.out HPreI.out))
              go_wp2_with (first
                | ((with_reducible show Sl 9);go_must (refine j7 rfl 66 rfl (ndC ⟨0,0,0,0⟩) jU ?_);intro g5 w6 hg5 hk6 hw6;have HG5:=kp hg5;have HK6:=kp hk6;have HW6:=kp hw6;clear hg5 hk6 hw6)
                | ((with_reducible show Sn);go_must (refine j5 rfl 66 (.tmp 9) (.tmp 26) rfl g5 (ndC x) rfl rfl _ _ HK6.out jD rfl (jK x) ?_);intro w7 hk7 hg7 hs7
                   obtain ⟨hx0,hx1,hx2,hx3⟩:=jB hk7
                   have HBq7:=kp (HW6.out.grown hg7 HW6.out.size (fun k hk => by cases hk;exact HG5.out))
                   have HB7:=kp (HBL.out.trans (HBq7.out.mono hszq))
                   have hcv:=((HK.out.below HBq7.out HK.out.lt).cell (k * 16 + f)).trans (lR HV.out)
                   rw [HKx.out] at hx1
                   clear hk7 hg7 hs7 hn0 hn1 hn2 hn3))
              go_ret3
              exact ⟨HE.out,HW4.out.trans (HB7.out.mono hs4)⟩
          · have hz7 : (x.kind == 7) = false:=by simpa using h7
            have HNx : Kept (∀ j,j < i + 1 → ¬ Q.roundAt p f j):=kp fun j hj h => by
              by_cases e : j = i
              · subst e
                obtain ⟨fn2,nd,g1',g2',g3,_⟩:=h
                rw [HX.out] at g1'
                cases g1'
                rw [HY.out] at g2'
                cases g2'
                exact h7 g3
              · exact HPreI.out j (by omega) h
            clear h7
            go_wp2_with (first
              | ((with_reducible show Sl 9);go_must (refine j7 rfl 66 rfl (ndC ⟨0,0,0,0⟩) jU ?_);intro g5 w6 hg5 hk6 hw6;have HG5:=kp hg5;have HK6:=kp hk6;have HW6:=kp hw6;clear hg5 hk6 hw6)
              | ((with_reducible show Sn);go_must (refine j5 rfl 66 (.tmp 9) (.tmp 26) rfl g5 (ndC x) rfl rfl _ _ HK6.out jD rfl (jK x) ?_);intro w7 hk7 hg7 hs7
                 obtain ⟨hx0,hx1,hx2,hx3⟩:=jB hk7
                 have HBq7:=kp (HW6.out.grown hg7 HW6.out.size (fun k hk => by cases hk;exact HG5.out))
                 have HB7:=kp (HBL.out.trans (HBq7.out.mono hszq))
                 clear hk7 hg7 hs7 hn0 hn1 hn2 hn3))
            go_roundw
            case rel => exact ⟨i + 1,by omega,by go_num,HNx.out,HB7.out⟩
            case measure => simp [intOf];omega
        · have HNx : Kept (∀ j,j < f + 1 → ¬ Q.badRound p j):=kp fun j hj h => by
            by_cases e : j = f
            · subst e
              obtain ⟨i2,h2⟩:=h
              by_cases hlt2 : i2 < i
              · exact HPreI.out i2 hlt2 h2
              · obtain ⟨fn2,nd,g1',g2',_⟩:=h2
                rw [HX.out] at g1'
                cases g1'
                have:=(List.getElem?_eq_some_iff.1 g2').1
                rw [HFl.out] at this
                omega
            · exact HPre.out j (by omega) h
          have hge : fn.len ≤ i:=by omega
          clear hli hok
          go_wp2
          go_roundw
          case rel => exact ⟨f + 1,by omega,by go_num,HNx.out,HBL.out⟩
          case measure => simp [intOf];omega
    · have HE:=kp (lB HC.out (Q.check_fine HCo.out HFine.out fun j hj => HPre.out j (by rw [HLen.out] at hj;omega)))
      have hge : p.len ≤ f:=by omega
      clear hlt
      go_wp2
      go_ret3
      exact ⟨HE.out,HW4.out.trans (HBL.out.mono hs4)⟩
theorem counts_of {p : Pg} (hlen : p.fns.length = p.len) (h : countsFault p = 0) : Q.Counts p:=by
  unfold countsFault at h
  split at h
  · cases h
  · split at h
    · cases h
    · exact ⟨by omega,by omega,by omega,by omega⟩
theorem JN {p : Pg} (hlen : p.fns.length = p.len) (h : countsFault p ≠ 0) : Q.check p = (-1,-1,countsFault p) ∧ (countsFault p = 1 ∨ countsFault p = 4):=by
  unfold countsFault Q.check at *
  rw [hlen]
  split
  · simp
  · split
    · simp
    · rename_i h1 h2
      rw [if_neg h1,if_neg h2] at h
      exact absurd rfl h
set_option maxRecDepth 1000000 in
set_option maxHeartbeats 8000000 in
theorem qR (B : Nat) (p : Pg) (w : World) (hp : p.Ok w B) (hB : B ≤ w.heap.size) (a b : Int) (c : Nat) (hc : Q.check p = (a,b,c)) :
    Calls Tryd.prog 27 #[pgA p] w fun e w' => e = .returned (.tuple #[.int .i64 a,.int .i64 b,.int .i64 (c : Int)]) ∧ Below w.heap.size w w':=by
  have HP:=kp hp;have HC:=kp hc
  have hlen:=hp.row.len
  have HLen:=kp hlen
  have hlc:=hp.lc;have hcm:=hp.cm
  unfold maxLen at hcm
  have hcm9 : p.cap ≤ 9223372036854775807:=by omega
  obtain ⟨q,hq⟩ : ∃ q,countsFault p = q:=⟨_,rfl⟩
  have HQ:=kp hq
  clear hp hcm hc
  rw [jM]
  by_cases hq0 : q = 0
  · subst hq0
    have HCo:=kp (counts_of hlen hq)
    clear hlen hq
    go_enter Tryd.func27,Tryd.ntmps27
    go_wp2_with (first
      | ((with_reducible refine j4 rfl 24 (.tmp 0) rfl (pgC p) rfl ?_);intro g1 w1 hg1 hk1 hw1;have HK1:=kp hk1;have HW1:=kp hw1;have hs1:=hw1.size;have HP1:=kp (HP.out.below (hw1.mono hB));clear hg1 hk1 hw1)
      | ((with_reducible show Sl 10);go_must (refine j6 rfl 24 (.tmp 1) rfl g1 rfl _ (pgC p) _ HK1.out Tryd.underlying24 rfl jL ?_))
      | (go_at_call 45;go_must (refine (xB p _ HQ.out _).mono ?_);rintro e9 w2 ⟨rfl,hw2⟩;have HKp2:=kp (HK1.out.below hw2 HK1.out.lt);obtain ⟨hc0,hc1,hc2,hc3⟩:=j8 HKp2.out;have HW2:=kp (HW1.out.trans (hw2.mono hs1));have hs2:=HW2.out.size;clear hw2))
    clear hc0 hc1 hc2 hc3
    have HP2:=kp (HP.out.below (HW2.out.mono hB))
    have hB2 : B ≤ w2.heap.size:=by omega
    go_loopw [18] (fun v18 wr => ∃ f : Nat,f ≤ p.len ∧ v18 = .int .i64 f ∧ (∀ j,j < f → ¬ Q.badFn p j) ∧ Below w2.heap.size w2 wr) (fun v18 _ => p.len - (intOf v18).toNat)
    case atStart => exact ⟨0,by omega,rfl,fun j hj => by omega,Below.refl _ _⟩
    case round =>
      obtain ⟨f,hf,rfl,hpre,hbl⟩:=hrel
      have HPre:=kp hpre;have HBL:=kp hbl
      have hszr:=hbl.size
      have HPr:=kp (HP2.out.below (hbl.mono hB2))
      have HKr:=kp (HKp2.out.below hbl HKp2.out.lt)
      have hBr : B ≤ wr.heap.size:=by omega
      clear hpre hbl
      by_cases hlt : f < p.len
      · obtain ⟨ad,fn,e1,hab0,hx,hok0,hcf⟩:=HPr.out.fn hlt
        rw [e1]
        have HX:=kp hx;have HOk:=kp hok0
        obtain ⟨a',c',hfa⟩ : ∃ a' c',Q.fnFault p fn = (a',c'):=⟨_,_,rfl⟩
        have HFa:=kp hfa
        clear hx hok0 e1 hfa
        by_cases hz : c' = 0
        · subst hz
          have HNx : Kept (∀ j,j < f + 1 → ¬ Q.badFn p j):=kp fun j hj h => by
            by_cases e : j = f
            · subst e
              obtain ⟨fn2,h1,h2⟩:=h
              rw [HX.out] at h1
              cases h1
              rw [HFa.out] at h2
              exact h2 rfl
            · exact HPre.out j (by omega) h
          go_wp2_with (first
            | ((with_reducible show Sl 24);go_must (refine j6 rfl 24 (.tmp 1) rfl g1 rfl _ (pgC p) _ HKr.out Tryd.underlying24 rfl jL ?_))
            | (go_at_call 46;go_must (refine (xT B p fn _ _ HFa.out _ HPr.out HOk.out hBr).mono ?_);rintro e9 w9 ⟨rfl,hw9⟩;have HB9:=kp (HBL.out.trans (hw9.mono hszr));clear hw9))
          go_roundw
          case rel => exact ⟨f + 1,by omega,by go_num,HNx.out,HB9.out⟩
          case measure => simp [intOf];omega
        · have hzb : ((c' : Int) != 0) = true:=by rw [bne_iff_ne];omega
          have HE:=kp (lB HC.out (Q.check_fn HCo.out HX.out (by rw [HFa.out];exact hz) HPre.out))
          rw [HFa.out] at HE
          clear hz
          go_wp2_with (first
            | ((with_reducible show Sl 24);go_must (refine j6 rfl 24 (.tmp 1) rfl g1 rfl _ (pgC p) _ HKr.out Tryd.underlying24 rfl jL ?_))
            | (go_at_call 46;go_must (refine (xT B p fn _ _ HFa.out _ HPr.out HOk.out hBr).mono ?_);rintro e9 w9 ⟨rfl,hw9⟩;have HB9:=kp (HBL.out.trans (hw9.mono hszr));clear hw9))
          go_ret3
          exact ⟨HE.out,HW2.out.trans (HB9.out.mono hs2)⟩
      · have HFine : Kept (∀ j,j < p.fns.length → ¬ Q.badFn p j):=kp fun j hj => HPre.out j (by rw [HLen.out] at hj;omega)
        have hge : p.len ≤ f:=by omega
        clear hlt
        go_wp2_with (first
          | ((with_reducible show Sl 35);go_must (refine j6 rfl 24 (.tmp 1) rfl g1 rfl _ (pgC p) _ HKr.out Tryd.underlying24 rfl jL ?_))
          | (go_at_call 47;go_must (refine (vR B p _ HPr.out hBr HCo.out HFine.out a b c HC.out).mono ?_);rintro e9 w9 ⟨rfl,hw9⟩;have HB9:=kp (HBL.out.trans (hw9.mono hszr));clear hw9))
        go_ret3
        exact ⟨rfl,HW2.out.trans (HB9.out.mono hs2)⟩
  · obtain ⟨hck,hor⟩:=JN hlen (by rw [hq];exact hq0)
    rw [hq] at hck hor
    have HE:=kp (lB HC.out hck)
    have hqb : ((q : Int) != 0) = true:=by rw [bne_iff_ne];omega
    clear hck hq hlen hq0 hor
    go_enter Tryd.func27,Tryd.ntmps27
    go_wp2_with (first
      | ((with_reducible refine j4 rfl 24 (.tmp 0) rfl (pgC p) rfl ?_);intro g1 w1 hg1 hk1 hw1;have HK1:=kp hk1;have HW1:=kp hw1;have hs1:=hw1.size;clear hg1 hk1 hw1)
      | ((with_reducible show Sl 10);go_must (refine j6 rfl 24 (.tmp 1) rfl g1 rfl _ (pgC p) _ HK1.out Tryd.underlying24 rfl jL ?_))
      | (go_at_call 45;go_must (refine (xB p _ HQ.out _).mono ?_);rintro e9 w2 ⟨rfl,hw2⟩;have HW2:=kp (HW1.out.trans (hw2.mono hs1));clear hw2))
    go_ret3
    exact ⟨HE.out,HW2.out⟩
theorem uF (B : Nat) (p : Pg) (w : World) (hp : p.Ok w B) (hB : B ≤ w.heap.size) (_hs : Q.small p = true) (a b : Int) (c : Nat) (hc : Q.check p = (a,b,c)) :
    Calls Tryd.prog 27 #[pgA p] w fun e w' => e = .returned (.tuple #[.int .i64 a,.int .i64 b,.int .i64 (c : Int)]) ∧ Below w.heap.size w w':=qR B p w hp hB a b c hc
theorem xQ {P : Nat → Prop} : ∀ {n : Nat},Q.firstIdx P n = none → ∀ j,j < n → ¬ P j
  | 0,_,j,hj => by omega
  | n + 1,h,j,hj => by
    simp only [Q.firstIdx] at h
    cases hf : Q.firstIdx P n with
    | some k => rw [hf] at h;cases h
    | none =>
      rw [hf] at h
      simp only at h
      split at h
      · cases h
      · rename_i hp
        by_cases hjn : j = n
        · subst hjn;exact hp
        · exact xQ hf j (by omega)
theorem vP {P : Nat → Prop} : ∀ {n i : Nat},Q.firstIdx P n = some i → i < n ∧ P i
  | 0,i,h => by cases h
  | n + 1,i,h => by
    simp only [Q.firstIdx] at h
    cases hf : Q.firstIdx P n with
    | some k =>
      rw [hf] at h
      cases h
      obtain ⟨h1,h2⟩:=vP hf
      exact ⟨by omega,h2⟩
    | none =>
      rw [hf] at h
      simp only at h
      split at h
      · rename_i hp
        cases h
        exact ⟨by omega,hp⟩
      · cases h
structure Fine (p : Pg) : Prop where
  counts : Q.Counts p
  nodes : ∀ j,j < p.fns.length → ¬ Q.badFn p j
  round : ∀ j,j < p.fns.length → ¬ Q.badRound p j
theorem qZ {p : Pg} {a b : Int} (h : Q.check p = (a,b,0)) : Fine p:=by
  unfold Q.check at h
  split at h
  · cases h
  · split at h
    · cases h
    · rename_i h1 h2
      split at h
      · rename_i f hf
        exfalso
        obtain ⟨hlt,fn,hfn,hb⟩:=vP hf
        have e : p.fns.getD f default = fn:=by rw [List.getD_eq_getElem?_getD,hfn];rfl
        rw [e] at h
        have:=congrArg (fun x : Int × Int × Nat => x.2.2) h
        exact hb this
      · rename_i hf
        split at h
        · cases h
        · rename_i hr
          exact ⟨⟨by omega,by omega,by omega,by omega⟩,xQ hf,xQ hr⟩
def more (p : Pg) (g l s : Int) : Pg:={ p with g:=g,l:=l,s:=s }
def cnt (P : Nat → Bool) : Nat → Nat
  | 0 => 0
  | n + 1 => cnt P n + (if P n then 1 else 0)
theorem JO (P : Nat → Bool) : ∀ n,cnt P n ≤ n
  | 0 => Nat.le_refl _
  | n + 1 => by have:=JO P n;simp only [cnt];split <;> omega
theorem cnt_mono {P P' : Nat → Bool} : ∀ n,(∀ g,g < n → P g = true → P' g = true) → cnt P n ≤ cnt P' n
  | 0,_ => Nat.le_refl _
  | n + 1,h => by
    have h1:=cnt_mono n fun g hg => h g (by omega)
    have h2:=h n (by omega)
    simp only [cnt]
    by_cases hp : P n = true
    · rw [if_pos hp,if_pos (h2 hp)];omega
    · rw [if_neg hp];omega
theorem cnt_lt {P P' : Nat → Bool} {f : Nat} : ∀ n,(∀ g,g < n → P g = true → P' g = true) → f < n → P f = false → P' f = true → cnt P n < cnt P' n
  | 0,_,hf,_,_ => by omega
  | n + 1,h,hf,h1,h2 => by
    by_cases hfn : f = n
    · subst hfn
      have h3:=cnt_mono f fun g hg => h g (by omega)
      simp only [cnt]
      rw [if_neg (by rw [h1];decide),if_pos h2];omega
    · have h3:=cnt_lt (f:=f) n (fun g hg => h g (by omega)) (by omega) h1 h2
      have h4:=h n (by omega)
      simp only [cnt]
      by_cases hp : P n = true
      · rw [if_pos hp,if_pos (h4 hp)];omega
      · rw [if_neg hp];omega
theorem uV {P : Nat → Bool} : ∀ n,cnt P n < n → ∃ g,g < n ∧ P g = false
  | 0,h => by omega
  | n + 1,h => by
    by_cases hp : P n = true
    · simp only [cnt] at h
      rw [if_pos hp] at h
      obtain ⟨g,hg,h1⟩:=uV (P:=P) n (by omega)
      exact ⟨g,by omega,h1⟩
    · exact ⟨n,by omega,by simpa using hp⟩
noncomputable def dec (P : Prop) : Bool:=@decide P (Classical.propDecidable P)
theorem LV {P : Prop} : dec P = true ↔ P:=by unfold dec;exact @decide_eq_true_iff P (Classical.propDecidable P)
theorem JA {P : Prop} : dec P = false ↔ ¬ P:=by unfold dec;exact @decide_eq_false_iff_not P (Classical.propDecidable P)
theorem xN {R : Nat → Nat → Prop} {n : Nat} (hac : ∀ x,x < n → ¬ Q.Reach R n x x) : ∀ (k : Nat) (U : Nat → Bool),cnt U n ≤ k → (∀ g,U g = true → g < n) → (∃ f,U f = true) → ∃ f,U f = true ∧ ∀ y,R f y → U y = false
  | 0,U,hk,hU,⟨f,hf⟩ => by
    exfalso
    have h1 : cnt (fun _ => false) n < cnt U n:=cnt_lt (f:=f) n (fun g _ h => by cases h) (hU f hf) rfl hf
    omega
  | k + 1,U,hk,hU,⟨f,hf⟩ => by
    by_cases hno : ∀ y,R f y → U y = false
    · exact ⟨f,hf,hno⟩
    · have hno2 : ∃ y,R f y ∧ U y = true:=by
        refine Classical.byContradiction fun h => hno fun y hy => ?_
        cases hu : U y
        · rfl
        · exact absurd ⟨y,hy,hu⟩ h
      obtain ⟨y,hy,hyu⟩:=hno2
      have hlt : cnt (fun g => U g && dec (Q.Reach R n f g)) n < cnt U n :=
        cnt_lt (f:=f) n (fun g _ h => by rw [Bool.and_eq_true] at h;exact h.1) (hU f hf) (by simp only [hf,Bool.true_and];exact JA.2 (hac f (hU f hf))) hf
      obtain ⟨g,hg,hgno⟩:=xN hac k (fun g => U g && dec (Q.Reach R n f g)) (by omega) (fun g h => hU g (by rw [Bool.and_eq_true] at h;exact h.1)) ⟨y,by simp only [hyu,Bool.true_and];exact LV.2 (.one hy)⟩
      rw [Bool.and_eq_true] at hg
      obtain ⟨hgu,hfg⟩:=hg
      refine ⟨g,hgu,fun z hz => ?_⟩
      have h1:=hgno z hz
      cases hzu : U z
      · rfl
      · simp only [hzu,Bool.true_and] at h1
        exact absurd ((LV.1 hfg).trans (hU g hgu) (.one hz)) (JA.1 h1)
structure OrdInv (R : Nat → Nat → Prop) (len : Nat) (o0 o : Nat → Bool) (f : Nat) : Prop where
  mono : ∀ g,o0 g = true → o g = true
  rest : ∀ g,f ≤ g → o g = o0 g
  done : ∀ g,g < f → (∀ y,R g y → o0 y = true) → o g = true
theorem OrdInv.start (R : Nat → Nat → Prop) (len : Nat) (o : Nat → Bool) : OrdInv R len o o 0:=⟨fun _ h => h,fun _ _ => rfl,fun g h => by omega⟩
theorem OrdInv.skip {R : Nat → Nat → Prop} {len : Nat} {o0 o : Nat → Bool} {f : Nat} (h : OrdInv R len o0 o f) (hn : ¬ (o f = false ∧ ∀ y,R f y → o y = true)) : OrdInv R len o0 o (f + 1):=by
  refine ⟨h.mono,fun g hg => h.rest g (by omega),fun g hg hc => ?_⟩
  by_cases hgf : g = f
  · subst hgf
    cases ho : o g
    · exact absurd ⟨ho,fun y hy => h.mono y (hc y hy)⟩ hn
    · rfl
  · exact h.done g (by omega) hc
theorem OrdInv.take {R : Nat → Nat → Prop} {len : Nat} {o0 o o' : Nat → Bool} {f : Nat} (h : OrdInv R len o0 o f) (h1 : o' f = true) (h2 : ∀ g,g ≠ f → o' g = o g) : OrdInv R len o0 o' (f + 1):=by
  refine ⟨fun g hg => ?_,fun g hg => ?_,fun g hg hc => ?_⟩
  · by_cases hgf : g = f
    · subst hgf;exact h1
    · rw [h2 g hgf];exact h.mono g hg
  · rw [h2 g (by omega)];exact h.rest g (by omega)
  · by_cases hgf : g = f
    · subst hgf;exact h1
    · rw [h2 g hgf];exact h.done g (by omega) hc
theorem OrdInv.gain {R : Nat → Nat → Prop} {len : Nat} {o0 o : Nat → Bool} (h : OrdInv R len o0 o len) (hac : ∀ x,x < len → ¬ Q.Reach R len x x) (hin : ∀ x y,R x y → y < len) (hlt : cnt o0 len < len) : cnt o0 len < cnt o len:=by
  obtain ⟨g,hg,hg0⟩:=uV len hlt
  obtain ⟨f,hff,hno⟩:=xN hac len (fun g => decide (g < len) && !o0 g) (JO _ _) (fun g h => by rw [Bool.and_eq_true] at h;simpa using h.1) ⟨g,by simp [hg,hg0]⟩
  rw [Bool.and_eq_true] at hff
  have hf : f < len:=by simpa using hff.1
  have hf0 : o0 f = false:=by simpa using hff.2
  refine cnt_lt (f:=f) len (fun g _ hg => h.mono g hg) hf hf0 (h.done f hf fun y hy => ?_)
  cases hy0 : o0 y
  · have h1:=hno y hy
    simp [hin f y hy,hy0] at h1
  · rfl
theorem x6 {p : Pg} (h : Fine p) (hl : p.fns.length = p.len) {x y : Nat} (hc : Q.calls p x y) : y < p.fns.length:=by
  obtain ⟨f,hf,nd,hnd,h7,ha⟩:=hc
  have:=(vB h.nodes f (List.mem_of_getElem? hf) nd hnd h7).2
  omega
theorem zL {p : Pg} (h : Fine p) (hl : p.fns.length = p.len) : ∀ x,x < p.fns.length → ¬ Q.Reach (Q.calls p) p.fns.length x x:=by
  intro x hx hr
  refine h.round x hx ?_
  have key : ∀ y,Q.calls p x y → (y = x ∨ Q.Reach (Q.calls p) p.fns.length y x) → Q.badRound p x:=by
    intro y hc hor
    have hy:=x6 h hl hc
    obtain ⟨f,hf,nd,hnd,h7,ha⟩:=hc
    obtain ⟨i,hi⟩:=List.mem_iff_getElem?.1 hnd
    exact ⟨i,f,nd,hf,hi,h7,y,ha,hy,hor⟩
  cases hr with
  | one hc => exact key x hc (.inl rfl)
  | more hc hj hr => exact key _ hc (.inr hr)
def Free (p : Pg) (out : List Nat) (f : Nat) : Prop:=f ∉ out ∧ ∀ y,Q.calls p f y → y ∈ out
def IsOrd (p : Pg) (l : List Nat) : Prop:=∀ k f,l[k]? = some f → f < p.fns.length ∧ Free p (l.take k) f ∧ ∀ g,g < f → ¬ Free p (l.take k) g
theorem ord_nil (p : Pg) : IsOrd p []:=fun k f h => by simp at h
theorem ord_snoc {p : Pg} {l : List Nat} {f : Nat} (h : IsOrd p l) (hf : f < p.fns.length) (h1 : Free p l f) (h2 : ∀ g,g < f → ¬ Free p l g) : IsOrd p (l ++ [f]):=by
  intro k x hx
  have hk:=(List.getElem?_eq_some_iff.1 hx).1
  rw [List.length_append,List.length_singleton] at hk
  by_cases hkl : k < l.length
  · rw [List.getElem?_append_left hkl] at hx
    rw [List.take_append_of_le_length (by omega)]
    exact h k x hx
  · have hke : k = l.length:=by omega
    subst hke
    rw [List.getElem?_append_right (Nat.le_refl _),Nat.sub_self] at hx
    have : x = f:=by simpa using hx.symm
    subst this
    rw [List.take_left' rfl]
    exact ⟨hf,h1,h2⟩
theorem J5 {p : Pg} {l : List Nat} (h : IsOrd p l) : l.Nodup:=by
  refine List.pairwise_iff_getElem.2 fun i j hi hj hij e => ?_
  have hy : l[j]? = some l[j]:=List.getElem?_eq_getElem hj
  refine (h j _ hy).2.1.1 ?_
  have : (l.take j)[i]? = some l[j]:=by rw [List.getElem?_take,if_pos hij,List.getElem?_eq_getElem hi,e]
  exact List.mem_of_getElem? this
theorem XQ {P P' : Nat → Bool} {x : Nat} (h : ∀ g,g ≠ x → P' g = P g) : ∀ n,cnt P' n ≤ cnt P n + (if x < n then 1 else 0)
  | 0 => by simp [cnt]
  | n + 1 => by
    have ih:=XQ h n
    simp only [cnt]
    by_cases hx : n = x
    · subst hx
      rw [if_neg (by omega)] at ih
      rw [if_pos (show n < n + 1 by omega)]
      split <;> split <;> omega
    · rw [h n hx]
      by_cases hxn : x < n
      · rw [if_pos hxn] at ih;rw [if_pos (show x < n + 1 by omega)];omega
      · rw [if_neg hxn] at ih;rw [if_neg (show ¬ x < n + 1 by omega)];omega
theorem XR (n : Nat) : ∀ l : List Nat,cnt (fun g => decide (g ∈ l)) n ≤ l.length
  | [] => by
    have : ∀ n,cnt (fun g => decide (g ∈ ([] : List Nat))) n = 0:=by
      intro n
      induction n with
      | zero => rfl
      | succ n ih => simp only [cnt,ih];simp
    rw [this];exact Nat.zero_le _
  | x :: l => by
    have ih:=XR n l
    have h1:=XQ (P:=fun g => decide (g ∈ l)) (P':=fun g => decide (g ∈ x :: l)) (x:=x) (fun g hg => by simp [hg]) n
    rw [List.length_cons]
    split at h1 <;> omega
theorem ord_next {p : Pg} {l : List Nat} (hf : Fine p) (hlen : p.fns.length = p.len) (hlt : l.length < p.fns.length) : ∃ f,f < p.fns.length ∧ Free p l f:=by
  have hne : ∃ g,g < p.fns.length ∧ g ∉ l:=by
    obtain ⟨g,hg,hgl⟩:=uV (P:=fun g => decide (g ∈ l)) p.fns.length (by have:=XR p.fns.length l;omega)
    exact ⟨g,hg,by simpa using hgl⟩
  obtain ⟨g,hg,hgl⟩:=hne
  obtain ⟨f,hff,hno⟩:=xN (zL hf hlen) p.fns.length (fun g => decide (g < p.fns.length) && !decide (g ∈ l)) (JO _ _) (fun g h => by rw [Bool.and_eq_true] at h;simpa using h.1) ⟨g,by simp [hg,hgl]⟩
  rw [Bool.and_eq_true] at hff
  refine ⟨f,by simpa using hff.1,by simpa using hff.2,fun y hy => ?_⟩
  refine Classical.byContradiction fun hyl => ?_
  have h1:=hno y hy
  simp [x6 hf hlen hy,hyl] at h1
def Edge (l : List Nd) (j i : Nat) : Prop:=i < l.length ∧ ∃ nd,l[j]? = some nd ∧ (i : Int) ∈ Q.succ nd
def Behind (l : List Nd) (from_ : List Int) (i : Nat) : Prop:=∃ j : Nat,(j : Int) ∈ from_ ∧ j < l.length ∧ Q.Reach (Edge l) l.length j i
def Start (from_ : List Int) (o : Nat → Bool) (j : Nat) : Prop:=(j : Int) ∈ from_ ∨ o j = true
def Closed (l : List Nd) (from_ : List Int) (o : Nat → Bool) : Prop:=∀ j i,j < l.length → Start from_ o j → Edge l j i → o i = true
def Sound (l : List Nd) (from_ : List Int) (o : Nat → Bool) : Prop:=∀ i,o i = true → i < l.length ∧ Behind l from_ i
theorem Q3 {l : List Nd} {from_ : List Int} {o : Nat → Bool} (hs : Sound l from_ o) {j i : Nat} (hj : j < l.length) (h : Start from_ o j) (he : Edge l j i) : i < l.length ∧ Behind l from_ i:=by
  refine ⟨he.1,?_⟩
  rcases h with h | h
  · exact ⟨j,h,hj,.one he⟩
  · obtain ⟨_,k,hk,hkl,hr⟩:=hs j h
    exact ⟨k,hk,hkl,hr.trans hj (.one he)⟩
structure RoundInv (l : List Nd) (from_ : List Int) (o0 o : Nat → Bool) (i : Nat) : Prop where
  mono : ∀ g,o0 g = true → o g = true
  sound : Sound l from_ o
  done : ∀ j y,j < i → Start from_ o0 j → Edge l j y → o y = true
  keep : Closed l from_ o0 → ∀ g,o g = true → o0 g = true
theorem RoundInv.start {l : List Nd} {from_ : List Int} {o : Nat → Bool} (h : Sound l from_ o) : RoundInv l from_ o o 0:=⟨fun _ h => h,h,fun j y hj => by omega,fun _ _ h => h⟩
theorem RoundInv.skip {l : List Nd} {from_ : List Int} {o0 o : Nat → Bool} {i : Nat} (h : RoundInv l from_ o0 o i) (hn : ¬ Start from_ o i) : RoundInv l from_ o0 o (i + 1):=by
  refine ⟨h.mono,h.sound,fun j y hj hs he => ?_,h.keep⟩
  by_cases hji : j = i
  · subst hji
    refine absurd ?_ hn
    rcases hs with hs | hs
    · exact .inl hs
    · exact .inr (h.mono _ hs)
  · exact h.done j y (by omega) hs he
structure StepInv (l : List Nd) (o o' : Nat → Bool) (s : List Int) (k : Nat) : Prop where
  mono : ∀ g,o g = true → o' g = true
  new : ∀ g,o' g = true → o g = true ∨ (g < l.length ∧ ∃ j,j < k ∧ s[j]? = some (g : Int))
  done : ∀ (j g : Nat),j < k → s[j]? = some (g : Int) → g < l.length → o' g = true
theorem StepInv.start (l : List Nd) (o : Nat → Bool) (s : List Int) : StepInv l o o s 0:=⟨fun _ h => h,fun _ h => .inl h,fun j g hj => by omega⟩
theorem StepInv.skip {l : List Nd} {o o' : Nat → Bool} {s : List Int} {k : Nat} {y : Int} (h : StepInv l o o' s k) (hy : s[k]? = some y) (hn : ¬ (0 ≤ y ∧ y < (l.length : Int))) : StepInv l o o' s (k + 1):=by
  refine ⟨h.mono,fun g hg => ?_,fun j g hj hjs hg => ?_⟩
  · rcases h.new g hg with h1 | ⟨h1,j,hj,h2⟩
    · exact .inl h1
    · exact .inr ⟨h1,j,by omega,h2⟩
  · by_cases hjk : j = k
    · subst hjk;rw [hy] at hjs;cases hjs;exact absurd ⟨by omega,by omega⟩ hn
    · exact h.done j g (by omega) hjs hg
theorem StepInv.set {l : List Nd} {o o' : Nat → Bool} {s : List Int} {k y : Nat} (h : StepInv l o o' s k) (hy : s[k]? = some (y : Int)) (hlt : y < l.length) : StepInv l o (fun g => if g = y then true else o' g) s (k + 1):=by
  refine ⟨fun g hg => ?_,fun g hg => ?_,fun j g hj hjs hg => ?_⟩
  · split
    · rfl
    · exact h.mono g hg
  · by_cases hgy : g = y
    · subst hgy;exact .inr ⟨hlt,k,by omega,hy⟩
    · simp only [if_neg hgy] at hg
      rcases h.new g hg with h1 | ⟨h1,j,hj,h2⟩
      · exact .inl h1
      · exact .inr ⟨h1,j,by omega,h2⟩
  · by_cases hgy : g = y
    · rw [if_pos hgy]
    · rw [if_neg hgy]
      by_cases hjk : j = k
      · subst hjk;rw [hy] at hjs;injection hjs with e;omega
      · exact h.done j g (by omega) hjs hg
theorem RoundInv.step {l : List Nd} {from_ : List Int} {o0 o o' : Nat → Bool} {i : Nat} {nd : Nd} (h : RoundInv l from_ o0 o i) (hi : l[i]? = some nd) (hs : Start from_ o i) (hst : StepInv l o o' (Q.succ nd) (Q.succ nd).length) : RoundInv l from_ o0 o' (i + 1):=by
  have hil : i < l.length:=(List.getElem?_eq_some_iff.1 hi).1
  have edge : ∀ g,g < l.length → (∃ j,j < (Q.succ nd).length ∧ (Q.succ nd)[j]? = some (g : Int)) → Edge l i g:=by
    rintro g hg ⟨j,_,hj⟩
    exact ⟨hg,nd,hi,List.mem_of_getElem? hj⟩
  refine ⟨fun g hg => hst.mono g (h.mono g hg),fun g hg => ?_,fun j y hj hsj he => ?_,fun hc g hg => ?_⟩
  · rcases hst.new g hg with h1 | ⟨h1,h2⟩
    · exact h.sound g h1
    · exact Q3 h.sound hil hs (edge g h1 h2)
  · by_cases hji : j = i
    · subst hji
      obtain ⟨hyl,nd',hnd',hmem⟩:=he
      rw [hi] at hnd';cases hnd'
      obtain ⟨k,hk⟩:=List.mem_iff_getElem?.1 hmem
      exact hst.done k y (List.getElem?_eq_some_iff.1 hk).1 hk hyl
    · exact hst.mono y (h.done j y (by omega) hsj he)
  · rcases hst.new g hg with h1 | ⟨h1,h2⟩
    · exact h.keep hc g h1
    · have hs0 : Start from_ o0 i:=by
        rcases hs with hs | hs
        · exact .inl hs
        · exact .inr (h.keep hc i hs)
      exact hc i g hil hs0 (edge g h1 h2)
theorem RoundInv.gain {l : List Nd} {from_ : List Int} {o0 o : Nat → Bool} {r : Nat} (h : RoundInv l from_ o0 o l.length) (hr : Closed l from_ o0 ∨ r ≤ cnt o0 l.length) : Closed l from_ o ∨ r + 1 ≤ cnt o l.length:=by
  by_cases hc : Closed l from_ o0
  · refine .inl fun j i hj hs he => h.mono i (hc j i hj ?_ he)
    rcases hs with hs | hs
    · exact .inl hs
    · exact .inr (h.keep hc j hs)
  · have hr' : r ≤ cnt o0 l.length:=hr.resolve_left hc
    have hx : ∃ j i,j < l.length ∧ Start from_ o0 j ∧ Edge l j i ∧ o0 i = false:=by
      refine Classical.byContradiction fun hno => hc fun j i hj hs he => ?_
      cases ho : o0 i
      · exact absurd ⟨j,i,hj,hs,he,ho⟩ hno
      · rfl
    obtain ⟨j,i,hj,hs,he,ho⟩:=hx
    have:=cnt_lt (f:=i) l.length (fun g _ hg => h.mono g hg) he.1 ho (h.done j i hj hs he)
    exact .inr (by omega)
def lenV : Value → Nat
  | .slice _ n _ => n
  | _ => 0
def NextFrom (p : Pg) (l : List Nat) (k : Nat) (nx : Int) : Prop :=
  (nx = -1 ∧ ∀ g,k ≤ g → g < p.len → ¬ Free p l g) ∨ ∃ m : Nat,nx = (m : Int) ∧ k ≤ m ∧ m < p.len ∧ Free p l m ∧ ∀ g,k ≤ g → g < m → ¬ Free p l g
theorem NextFrom.skip {p : Pg} {l : List Nat} {k : Nat} {nx : Int} (h : NextFrom p l (k + 1) nx) (hn : ¬ Free p l k) : NextFrom p l k nx:=by
  rcases h with ⟨h1,h2⟩ | ⟨m,h1,h2,h3,h4,h5⟩
  · refine .inl ⟨h1,fun g hg hl => ?_⟩
    by_cases hgk : g = k
    · subst hgk;exact hn
    · exact h2 g (by omega) hl
  · refine .inr ⟨m,h1,by omega,h3,h4,fun g hg hl => ?_⟩
    by_cases hgk : g = k
    · subst hgk;exact hn
    · exact h5 g (by omega) hl
theorem NextFrom.take {p : Pg} {l : List Nat} {k : Nat} (hk : k < p.len) (hf : Free p l k) : NextFrom p l k (k : Int):=.inr ⟨k,rfl,Nat.le_refl _,hk,hf,fun g h1 h2 => by omega⟩
def outB (o : Nat → Bool) (n : Nat) : List Value:=(List.range n).map fun g => .bool (o g)
theorem xM (o : Nat → Bool) (n f : Nat) (hf : f < n) : (outB o n)[f]? = some (.bool (o f)):=by
  unfold outB
  rw [List.getElem?_map,List.getElem?_range hf];rfl
theorem zG (o : Nat → Bool) (n : Nat) : (outB o n).length = n:=by simp [outB]
theorem LC (o : Nat → Bool) (n f : Nat) : (outB o n).set f (.bool true) = outB (fun g => if g = f then true else o g) n:=by
  apply List.ext_getElem?
  intro i
  by_cases hi : i < n
  · rw [xM _ n i hi]
    by_cases hif : f = i
    · subst hif
      rw [List.getElem?_set_self (by rw [zG];exact hi),if_pos rfl]
    · rw [List.getElem?_set_ne hif,xM _ n i hi,if_neg (fun e => hif e.symm)]
  · rw [List.getElem?_eq_none (by rw [List.length_set,zG];omega),List.getElem?_eq_none (by rw [zG];omega)]
theorem YD (n : Nat) : List.replicate n (Value.bool false) = outB (fun _ => false) n:=by
  apply List.ext_getElem?
  intro i
  by_cases hi : i < n
  · rw [xM _ n i hi,List.getElem?_replicate,if_pos hi]
  · rw [List.getElem?_eq_none (by rw [List.length_replicate];omega),List.getElem?_eq_none (by rw [zG];omega)]
theorem bool_info : (Tryd.prog.info? 4).map (fun i => (i.zero,i.size,i.bytes)) = some (some (.bool false),1,1):=by kernel_rfl
def CallIn (p : Pg) (x y : Nat) : Prop:=Q.calls p x y ∧ y < p.len
def Comes (p : Pg) (from_ : Nat → Prop) (f : Nat) : Prop:=f < p.len ∧ (from_ f ∨ ∃ j,from_ j ∧ j < p.len ∧ Q.Reach (CallIn p) p.len j f)
def Shut (p : Pg) (o : Nat → Bool) : Prop:=∀ j i,j < p.len → o j = true → CallIn p j i → o i = true
def Right (p : Pg) (from_ : Nat → Prop) (o : Nat → Bool) : Prop:=∀ i,o i = true → Comes p from_ i
theorem uU {p : Pg} {from_ : Nat → Prop} {j i : Nat} (h : Comes p from_ j) (hc : CallIn p j i) : Comes p from_ i:=by
  refine ⟨hc.2,.inr ?_⟩
  rcases h with ⟨hj,h | ⟨k,hk,hkl,hr⟩⟩
  · exact ⟨j,h,hj,.one hc⟩
  · exact ⟨k,hk,hkl,hr.trans hj (.one hc)⟩
theorem shut_all {p : Pg} {from_ : Nat → Prop} {o : Nat → Bool} (hs : Shut p o) (h0 : ∀ j,from_ j → j < p.len → o j = true) {f : Nat} (h : Comes p from_ f) : o f = true:=by
  obtain ⟨hf,h | ⟨j,hj,hjl,hr⟩⟩:=h
  · exact h0 f h hf
  · have key : ∀ x y,Q.Reach (CallIn p) p.len x y → x < p.len → o x = true → o y = true:=by
      intro x y hr
      induction hr with
      | one he => intro hx ho;exact hs _ _ hx ho he
      | more he hk _ ih => intro hx ho;exact ih hk (hs _ _ hx ho he)
    exact key j f hr hjl (h0 j hj hjl)
structure CallInv (p : Pg) (from_ : Nat → Prop) (o0 o : Nat → Bool) (i : Nat) : Prop where
  mono : ∀ g,o0 g = true → o g = true
  right : Right p from_ o
  done : ∀ j y,j < i → o0 j = true → CallIn p j y → o y = true
  keep : Shut p o0 → ∀ g,o g = true → o0 g = true
theorem CallInv.start {p : Pg} {from_ : Nat → Prop} {o : Nat → Bool} (h : Right p from_ o) : CallInv p from_ o o 0:=⟨fun _ h => h,h,fun j y hj => by omega,fun _ _ h => h⟩
structure NameInv (n : Nat) (o o' : Nat → Bool) (f : Nat) (cs : List Nat) (k : Nat) : Prop where
  mono : ∀ g,o g = true → o' g = true
  self : o' f = true → o f = true
  new : ∀ g,o' g = true → o g = true ∨ (o f = true ∧ g < n ∧ g ∈ cs)
  done : ∀ (j g : Nat),j < k → cs[j]? = some g → g < n → o f = true → o' g = true
theorem NameInv.start (n : Nat) (o : Nat → Bool) (f : Nat) (cs : List Nat) : NameInv n o o f cs 0:=⟨fun _ h => h,fun h => h,fun _ h => .inl h,fun j g hj => by omega⟩
theorem NameInv.skip {n : Nat} {o o' : Nat → Bool} {f : Nat} {cs : List Nat} {k y : Nat} (h : NameInv n o o' f cs k) (hy : cs[k]? = some y) (hn : ¬ (o' f = true ∧ y < n)) : NameInv n o o' f cs (k + 1):=by
  refine ⟨h.mono,h.self,h.new,fun j g hj hjs hg hof => ?_⟩
  by_cases hjk : j = k
  · subst hjk;rw [hy] at hjs;cases hjs;exact absurd ⟨h.mono f hof,hg⟩ hn
  · exact h.done j g (by omega) hjs hg hof
theorem NameInv.set {n : Nat} {o o' : Nat → Bool} {f : Nat} {cs : List Nat} {k y : Nat} (h : NameInv n o o' f cs k) (hy : cs[k]? = some y) (hf : o' f = true) (hlt : y < n) : NameInv n o (fun g => if g = y then true else o' g) f cs (k + 1):=by
  have hf2:=h.self hf
  refine ⟨fun g hg => ?_,fun _ => hf2,fun g hg => ?_,fun j g hj hjs hg hof => ?_⟩
  · split
    · rfl
    · exact h.mono g hg
  · by_cases hgy : g = y
    · subst hgy;exact .inr ⟨hf2,hlt,List.mem_of_getElem? hy⟩
    · simp only [if_neg hgy] at hg
      rcases h.new g hg with h1 | ⟨h1,h2,h3⟩
      · exact .inl h1
      · exact .inr ⟨hf2,h2,h3⟩
  · by_cases hgy : g = y
    · rw [if_pos hgy]
    · rw [if_neg hgy]
      by_cases hjk : j = k
      · subst hjk;rw [hy] at hjs;cases hjs;exact absurd rfl hgy
      · exact h.done j g (by omega) hjs hg hof
theorem CallInv.step {p : Pg} {from_ : Nat → Prop} {o0 o o' : Nat → Bool} {i : Nat} {fn : Fn} (h : CallInv p from_ o0 o i) (hl : p.fns.length = p.len) (h32 : p.len ≤ 32) (hi : p.fns[i]? = some fn) (hst : NameInv p.len o o' i (namedL fn.nodes 7) (namedL fn.nodes 7).length) : CallInv p from_ o0 o' (i + 1):=by
  have hil : i < p.len:=by rw [← hl];exact (List.getElem?_eq_some_iff.1 hi).1
  have call : ∀ g,g < p.len → g ∈ namedL fn.nodes 7 → CallIn p i g:=by
    intro g hg hm
    obtain ⟨_,nd,hnd,h7,ha⟩:=J6.1 hm
    exact ⟨⟨fn,hi,nd,hnd,h7,ha⟩,hg⟩
  refine ⟨fun g hg => hst.mono g (h.mono g hg),fun g hg => ?_,fun j y hj hsj he => ?_,fun hc g hg => ?_⟩
  · rcases hst.new g hg with h1 | ⟨h1,h2,h3⟩
    · exact h.right g h1
    · exact uU (h.right i h1) (call g h2 h3)
  · by_cases hji : j = i
    · subst hji
      obtain ⟨⟨fn',hx',nd,hnd,h7,ha⟩,hyl⟩:=he
      rw [hi] at hx';cases hx'
      obtain ⟨k,hk⟩:=List.mem_iff_getElem?.1 (J6.2 ⟨by omega,nd,hnd,h7,ha⟩ : y ∈ namedL fn.nodes 7)
      exact hst.done k y (List.getElem?_eq_some_iff.1 hk).1 hk hyl (h.mono j hsj)
    · exact hst.mono y (h.done j y (by omega) hsj he)
  · rcases hst.new g hg with h1 | ⟨h1,h2,h3⟩
    · exact h.keep hc g h1
    · exact hc i g hil (h.keep hc i h1) (call g h2 h3)
theorem CallInv.gain {p : Pg} {from_ : Nat → Prop} {o0 o : Nat → Bool} {r : Nat} (h : CallInv p from_ o0 o p.len) (hr : Shut p o0 ∨ r ≤ cnt o0 p.len) : Shut p o ∨ r + 1 ≤ cnt o p.len:=by
  by_cases hc : Shut p o0
  · exact .inl fun j i hj hs he => h.mono i (hc j i hj (h.keep hc j hs) he)
  · have hr':=hr.resolve_left hc
    have hx : ∃ j i,j < p.len ∧ o0 j = true ∧ CallIn p j i ∧ o0 i = false:=by
      refine Classical.byContradiction fun hno => hc fun j i hj hs he => ?_
      cases ho : o0 i
      · exact absurd ⟨j,i,hj,hs,he,ho⟩ hno
      · rfl
    obtain ⟨j,i,hj,hs,he,ho⟩:=hx
    have:=cnt_lt (f:=i) p.len (fun g _ hg => h.mono g hg) he.2 ho (h.done j i hj hs he)
    exact .inr (by omega)
theorem shut_end {p : Pg} {o : Nat → Bool} (h : Shut p o ∨ p.len ≤ cnt o p.len) : Shut p o:=by
  rcases h with h | h
  · exact h
  · intro j i hj ho he
    cases hoi : o i
    · have:=cnt_lt (P:=o) (P':=fun _ => true) (f:=i) p.len (fun _ _ _ => rfl) he.2 hoi rfl
      have h2:=JO (fun _ => true) p.len
      omega
    · rfl
end Go.Proofs.YtoekiejipdabmaaDoor
