/- ProgP5, ProgP, ProgLaw1, ProgLaw2, ProgOrd, SemMath, SemMath2, Box, SemIn, SemOwn. -/
import Derived.Test.YtcbfghcdbmlneaaPk7
import Derived.Test.YtcbfghcdbmlneaaProgP4
import Derived.Test.YtcbfghcdbmlneaaPk5
import Derived.Test.YtcbfghcdbmlneaaProgRef5
import Derived.BigQuiet
import Derived.Test.YtcbfghcdbmlneaaPk2
import Derived.Test.YtcbfghcdbmlneaaPk4
namespace Go.Proofs.Ytcbfghcdbmlneaa
open Go.RowKit
set_option maxRecDepth 1000000 in
set_option maxHeartbeats 8000000 in
theorem LF (B : Nat) (p : Pg) (w : World) (hp : p.Ok w B) (hB : B ≤ w.heap.size) (hco : Q.Counts p) (hfine : ∀ j,j < p.fns.length → ¬ Q.badFn p j) (a b : Int) (c : Nat) (hc : Q.check p = (a,b,c)) :
    Calls Try.prog 90 #[pgA p] w fun e w' => e = .returned (.tuple #[.int .i64 a,.int .i64 b,.int .i64 (c : Int)]) ∧ Below w.heap.size w w':=by
  have HP:=kp hp;have HC:=kp hc;have HCo:=kp hco;have HFine:=kp hfine
  have HFit:=kp (JN hfine)
  have hlen:=hp.row.len
  have HLen:=kp hlen
  have h16 : p.len ≤ 16:=by rw [← hlen];exact hco.f.2
  have hlc:=hp.lc;have hcm:=hp.cm
  unfold maxLen at hcm
  have hcm9 : p.cap ≤ 9223372036854775807:=by omega
  clear hp hfine hlen hcm hc hco
  rw [jL]
  go_enter Try.func90,Try.ntmps90
  go_wp2_with (first
    | ((with_reducible refine j6 rfl 46 (.tmp 0) rfl (pgC p) rfl ?_);intro g1 w1 hg1 hk1 hw1;have HK1:=kp hk1;have HW1:=kp hw1;have hs1:=hw1.size;have HP1:=kp (HP.out.below (hw1.mono hB));clear hg1 hk1 hw1)
    | ((with_reducible show Sl 10);go_must (refine j4 rfl 46 (.tmp 1) rfl g1 rfl _ (pgC p) _ HK1.out Try.underlying46 rfl jF ?_))
    | (go_at_call 102;go_must (refine (XY B p _ HP1.out (by omega) HFit.out h16).mono ?_);rintro e9 w2 ⟨L,rfl,hL,hent,hw2⟩;have HL:=kp hL;have HEnt:=kp hent;have HKp2:=kp (HK1.out.below hw2 HK1.out.lt);have HW2:=kp (HW1.out.trans (hw2.mono hs1));have hs2:=HW2.out.size;clear hL hent hw2)
    | ((with_reducible show Sl 5);go_must (refine j7 rfl 193 rfl (relC (List.replicate 256 false)) Q2 ?_);intro g3 w3 hg3 hk3 hw3;have HG3:=kp hg3;have HK3:=kp hk3;have HW3:=kp hw3;clear hg3 hk3 hw3)
    | ((with_reducible show Sn);go_must (refine j5 rfl 193 (.tmp 5) (.tmp 11) rfl g3 (relC L) rfl rfl _ _ HK3.out (by rw [xQ,HL.out];exact uT) (by rw [xQ,xQ,HL.out,List.length_replicate]) (YV L) ?_);intro w4 hk4 hg4 _
       have HK4:=kp hk4
       have HB24:=kp (HW3.out.grown hg4 HW3.out.size (fun k hk => by cases hk;exact HG3.out))
       have HKp4:=kp (HKp2.out.below HB24.out HKp2.out.lt)
       obtain ⟨hc0,hc1,hc2,hc3⟩:=jM HKp4.out
       have HW4:=kp (HW2.out.trans (HB24.out.mono hs2))
       have hs4:=HW4.out.size
       clear hk4 hg4))
  clear hc0 hc1 hc2 hc3
  have HP4:=kp (HP.out.below (HW4.out.mono hB))
  have hB4 : B ≤ w4.heap.size:=by omega
  go_loopw [15] (fun v15 wr => ∃ f : Nat,f ≤ p.len ∧ v15 = .int .i64 f ∧ (∀ j,j < f → ¬ Q.badRound p j) ∧ Below w4.heap.size w4 wr) (fun v15 _ => p.len - (intOf v15).toNat)
  case atStart => exact ⟨0,by omega,rfl,fun j hj => by omega,Below.refl _ _⟩
  case round =>
    obtain ⟨f,hf,rfl,hpre,hbl⟩:=hrel
    have HPre:=kp hpre;have HBL:=kp hbl
    have HPr:=kp (HP4.out.below (hbl.mono hB4))
    clear hpre hbl
    by_cases hlt : f < p.len
    · obtain ⟨ad,fn,e1,hab0,hx,hok0,hcf⟩:=HPr.out.fn hlt
      rw [e1]
      have HE1:=kp e1
      clear e1
      have HX:=kp hx
      obtain ⟨hf0,hf64,hmays⟩:=Q.fine_fn hx (HFine.out f (by rw [HLen.out];exact hlt))
      have hfl:=hok0.nodes.1.len
      have hfc:=hok0.lc;have hfm:=hok0.cm
      unfold maxLen at hfm
      have hfm9 : fn.cap ≤ 9223372036854775807:=by omega
      rw [hfl] at hf64
      have HMays:=kp hmays
      have HFl:=kp hfl
      clear hx hok0 hfm hf0 hmays hfl
      go_wp2
      clear hcf
      go_loopw [22] (fun v22 wq => ∃ i : Nat,i ≤ fn.len ∧ v22 = .int .i64 i ∧ (∀ j,j < i → ¬ Q.roundAt p f j) ∧ Below w4.heap.size w4 wq) (fun v22 _ => fn.len - (intOf v22).toNat)
      case atStart => exact ⟨0,by omega,rfl,fun j hj => by omega,HBL.out⟩
      case round =>
        clear HBL HPr
        obtain ⟨i,hi,rfl,hpre,hbl⟩:=hrel
        have HPreI:=kp hpre;have HBL:=kp hbl
        have hszq:=hbl.size
        obtain ⟨ad',fn',e1',hab,hx',hok,_⟩:=(HP4.out.below (hbl.mono hB4)).fn hlt
        rw [HE1.out] at e1'
        cases e1'
        rw [HX.out] at hx'
        cases hx'
        have HK:=kp (HK4.out.below hbl HK4.out.lt)
        clear hpre hbl
        by_cases hli : i < fn.len
        · obtain ⟨bd,x,e3,hbb,hy,hxok,hn0,hn1,hn2,hn3⟩:=hok.nodes.get hli
          rw [e3]
          have HY:=kp hy
          clear hok hy hxok e3
          by_cases h7 : x.kind = 7
          · have hz7 : (x.kind == 7) = true:=by simpa using h7
            obtain ⟨ha0,han⟩:=QJ (HMays.out i x HY.out) h7
            obtain ⟨k,hk⟩ : ∃ k : Nat,x.arg = (k : Int):=⟨x.arg.toNat,by omega⟩
            have hkn : k < p.len:=by omega
            have hk16 : k < 16:=by omega
            have hf16 : f < 16:=by omega
            obtain ⟨v,hv,hev⟩:=Q.ent_at HL.out hk16 hf16
            have HV:=kp hv
            have HRd : Kept (Q.roundAt p f i ↔ v = true):=kp <| by
              rw [← hev,HEnt.out k f hk16 hf16]
              unfold Q.roundAt
              have hcall : Q.calls p f k:=⟨fn,HX.out,x,List.mem_of_getElem? HY.out,h7,hk⟩
              constructor
              · rintro ⟨fn2,nd,g1',g2',_,k2,g4,g5,g6⟩
                rw [HX.out] at g1'
                cases g1'
                rw [HY.out] at g2'
                cases g2'
                have : k2 = k:=by omega
                subst this
                rcases g6 with g6 | g6
                · subst g6
                  exact .one hcall
                · rw [HLen.out] at g6
                  exact Q.reach_more h16 g6
              · intro h
                refine ⟨fn,x,HX.out,HY.out,h7,k,hk,by rw [HLen.out];exact hkn,.inr ?_⟩
                rw [HLen.out]
                exact Q.reach_less (Q.calls_lt HFit.out) h
            have HKx:=kp hk
            have hfi : (f : Int) < (16 : Int):=by omega
            have hki : (k : Int) < (16 : Int):=by omega
            have hf0 : (0 : Int) ≤ (f : Int):=by omega
            have hk0 : (0 : Int) ≤ (k : Int):=by omega
            clear h7 ha0 han hk hv hev
            cases v
            · have HNx : Kept (∀ j,j < i + 1 → ¬ Q.roundAt p f j):=kp fun j hj h => by
                by_cases e : j = i
                · subst e
                  have:=HRd.out.1 h
                  cases this
                · exact HPreI.out j (by omega) h
              go_wp2_with (first
                | ((with_reducible show Sl 9);go_must (refine j7 rfl 97 rfl (ndC ⟨0,0,0,0⟩) l0 ?_);intro g5 w6 hg5 hk6 hw6;have HG5:=kp hg5;have HK6:=kp hk6;have HW6:=kp hw6;clear hg5 hk6 hw6)
                | ((with_reducible show Sn);go_must (refine j5 rfl 97 (.tmp 9) (.tmp 26) rfl g5 (ndC x) rfl rfl _ _ HK6.out jO rfl (l5 x) ?_);intro w7 hk7 hg7 hs7
                   obtain ⟨hx0,hx1,hx2,hx3⟩:=jV hk7
                   have HBq7:=kp (HW6.out.grown hg7 HW6.out.size (fun k hk => by cases hk;exact HG5.out))
                   have HB7:=kp (HBL.out.trans (HBq7.out.mono hszq))
                   have hcv:=((HK.out.below HBq7.out HK.out.lt).cell (k * 16 + f)).trans (x9 HV.out)
                   rw [HKx.out] at hx1
                   clear hk7 hg7 hs7 hn0 hn1 hn2 hn3))
              go_roundw
              case rel => exact ⟨i + 1,by omega,by go_num,HNx.out,HB7.out⟩
              case measure => simp [intOf];omega
            · have HE:=kp (qR HC.out (Q.check_round HCo.out HFine.out (HRd.out.2 rfl) (by omega) (by rw [HLen.out];exact hlt) HPre.out HPreI.out))
              go_wp2_with (first
                | ((with_reducible show Sl 9);go_must (refine j7 rfl 97 rfl (ndC ⟨0,0,0,0⟩) l0 ?_);intro g5 w6 hg5 hk6 hw6;have HG5:=kp hg5;have HK6:=kp hk6;have HW6:=kp hw6;clear hg5 hk6 hw6)
                | ((with_reducible show Sn);go_must (refine j5 rfl 97 (.tmp 9) (.tmp 26) rfl g5 (ndC x) rfl rfl _ _ HK6.out jO rfl (l5 x) ?_);intro w7 hk7 hg7 hs7
                   obtain ⟨hx0,hx1,hx2,hx3⟩:=jV hk7
                   have HBq7:=kp (HW6.out.grown hg7 HW6.out.size (fun k hk => by cases hk;exact HG5.out))
                   have HB7:=kp (HBL.out.trans (HBq7.out.mono hszq))
                   have hcv:=((HK.out.below HBq7.out HK.out.lt).cell (k * 16 + f)).trans (x9 HV.out)
                   rw [HKx.out] at hx1
                   clear hk7 hg7 hs7 hn0 hn1 hn2 hn3))
              go_ret3
              exact ⟨HE.out,HW4.out.trans (HB7.out.mono hs4)⟩
          · have hz7 : (x.kind == 7) = false:=by simpa using h7
            have HNx : Kept (∀ j,j < i + 1 → ¬ Q.roundAt p f j):=kp fun j hj h => by
              by_cases e : j = i
              · subst e
                obtain ⟨fn2,nd,g1',g2',g3,_⟩:=h
                rw [HX.out] at g1'
                cases g1'
                rw [HY.out] at g2'
                cases g2'
                exact h7 g3
              · exact HPreI.out j (by omega) h
            clear h7
            go_wp2_with (first
              | ((with_reducible show Sl 9);go_must (refine j7 rfl 97 rfl (ndC ⟨0,0,0,0⟩) l0 ?_);intro g5 w6 hg5 hk6 hw6;have HG5:=kp hg5;have HK6:=kp hk6;have HW6:=kp hw6;clear hg5 hk6 hw6)
              | ((with_reducible show Sn);go_must (refine j5 rfl 97 (.tmp 9) (.tmp 26) rfl g5 (ndC x) rfl rfl _ _ HK6.out jO rfl (l5 x) ?_);intro w7 hk7 hg7 hs7
                 obtain ⟨hx0,hx1,hx2,hx3⟩:=jV hk7
                 have HBq7:=kp (HW6.out.grown hg7 HW6.out.size (fun k hk => by cases hk;exact HG5.out))
                 have HB7:=kp (HBL.out.trans (HBq7.out.mono hszq))
                 clear hk7 hg7 hs7 hn0 hn1 hn2 hn3))
            go_roundw
            case rel => exact ⟨i + 1,by omega,by go_num,HNx.out,HB7.out⟩
            case measure => simp [intOf];omega
        · have HNx : Kept (∀ j,j < f + 1 → ¬ Q.badRound p j):=kp fun j hj h => by
            by_cases e : j = f
            · subst e
              obtain ⟨i2,h2⟩:=h
              by_cases hlt2 : i2 < i
              · exact HPreI.out i2 hlt2 h2
              · obtain ⟨fn2,nd,g1',g2',_⟩:=h2
                rw [HX.out] at g1'
                cases g1'
                have:=(List.getElem?_eq_some_iff.1 g2').1
                rw [HFl.out] at this
                omega
            · exact HPre.out j (by omega) h
          have hge : fn.len ≤ i:=by omega
          clear hli hok
          go_wp2
          go_roundw
          case rel => exact ⟨f + 1,by omega,by go_num,HNx.out,HBL.out⟩
          case measure => simp [intOf];omega
    · have HE:=kp (qR HC.out (Q.check_fine HCo.out HFine.out fun j hj => HPre.out j (by rw [HLen.out] at hj;omega)))
      have hge : p.len ≤ f:=by omega
      clear hlt
      go_wp2
      go_ret3
      exact ⟨HE.out,HW4.out.trans (HBL.out.mono hs4)⟩
theorem counts_of {p : Pg} (hlen : p.fns.length = p.len) (h : countsFault p = 0) : Q.Counts p:=by
  unfold countsFault at h
  split at h
  · cases h
  · split at h
    · cases h
    · exact ⟨by omega,by omega,by omega,by omega⟩
theorem YB {p : Pg} (hlen : p.fns.length = p.len) (h : countsFault p ≠ 0) : Q.check p = (-1,-1,countsFault p) ∧ (countsFault p = 1 ∨ countsFault p = 4):=by
  unfold countsFault Q.check at *
  rw [hlen]
  split
  · simp
  · split
    · simp
    · rename_i h1 h2
      rw [if_neg h1,if_neg h2] at h
      exact absurd rfl h
set_option maxRecDepth 1000000 in
set_option maxHeartbeats 8000000 in
theorem zQ (B : Nat) (p : Pg) (w : World) (hp : p.Ok w B) (hB : B ≤ w.heap.size) (a b : Int) (c : Nat) (hc : Q.check p = (a,b,c)) :
    Calls Try.prog 75 #[pgA p] w fun e w' => e = .returned (.tuple #[.int .i64 a,.int .i64 b,.int .i64 (c : Int)]) ∧ Below w.heap.size w w':=by
  have HP:=kp hp;have HC:=kp hc
  have hlen:=hp.row.len
  have HLen:=kp hlen
  have hlc:=hp.lc;have hcm:=hp.cm
  unfold maxLen at hcm
  have hcm9 : p.cap ≤ 9223372036854775807:=by omega
  obtain ⟨q,hq⟩ : ∃ q,countsFault p = q:=⟨_,rfl⟩
  have HQ:=kp hq
  clear hp hcm hc
  rw [jL]
  by_cases hq0 : q = 0
  · subst hq0
    have HCo:=kp (counts_of hlen hq)
    clear hlen hq
    go_enter Try.func75,Try.ntmps75
    go_wp2_with (first
      | ((with_reducible refine j6 rfl 46 (.tmp 0) rfl (pgC p) rfl ?_);intro g1 w1 hg1 hk1 hw1;have HK1:=kp hk1;have HW1:=kp hw1;have hs1:=hw1.size;have HP1:=kp (HP.out.below (hw1.mono hB));clear hg1 hk1 hw1)
      | ((with_reducible show Sl 10);go_must (refine j4 rfl 46 (.tmp 1) rfl g1 rfl _ (pgC p) _ HK1.out Try.underlying46 rfl jF ?_))
      | (go_at_call 88;go_must (refine (yV p _ HQ.out _).mono ?_);rintro e9 w2 ⟨rfl,hw2⟩;have HKp2:=kp (HK1.out.below hw2 HK1.out.lt);obtain ⟨hc0,hc1,hc2,hc3⟩:=jM HKp2.out;have HW2:=kp (HW1.out.trans (hw2.mono hs1));have hs2:=HW2.out.size;clear hw2))
    clear hc0 hc1 hc2 hc3
    have HP2:=kp (HP.out.below (HW2.out.mono hB))
    have hB2 : B ≤ w2.heap.size:=by omega
    go_loopw [18] (fun v18 wr => ∃ f : Nat,f ≤ p.len ∧ v18 = .int .i64 f ∧ (∀ j,j < f → ¬ Q.badFn p j) ∧ Below w2.heap.size w2 wr) (fun v18 _ => p.len - (intOf v18).toNat)
    case atStart => exact ⟨0,by omega,rfl,fun j hj => by omega,Below.refl _ _⟩
    case round =>
      obtain ⟨f,hf,rfl,hpre,hbl⟩:=hrel
      have HPre:=kp hpre;have HBL:=kp hbl
      have hszr:=hbl.size
      have HPr:=kp (HP2.out.below (hbl.mono hB2))
      have HKr:=kp (HKp2.out.below hbl HKp2.out.lt)
      have hBr : B ≤ wr.heap.size:=by omega
      clear hpre hbl
      by_cases hlt : f < p.len
      · obtain ⟨ad,fn,e1,hab0,hx,hok0,hcf⟩:=HPr.out.fn hlt
        rw [e1]
        have HX:=kp hx;have HOk:=kp hok0
        obtain ⟨a',c',hfa⟩ : ∃ a' c',Q.fnFault p fn = (a',c'):=⟨_,_,rfl⟩
        have HFa:=kp hfa
        clear hx hok0 e1 hfa
        by_cases hz : c' = 0
        · subst hz
          have HNx : Kept (∀ j,j < f + 1 → ¬ Q.badFn p j):=kp fun j hj h => by
            by_cases e : j = f
            · subst e
              obtain ⟨fn2,h1,h2⟩:=h
              rw [HX.out] at h1
              cases h1
              rw [HFa.out] at h2
              exact h2 rfl
            · exact HPre.out j (by omega) h
          go_wp2_with (first
            | ((with_reducible show Sl 24);go_must (refine j4 rfl 46 (.tmp 1) rfl g1 rfl _ (pgC p) _ HKr.out Try.underlying46 rfl jF ?_))
            | (go_at_call 89;go_must (refine (zH B p fn _ _ HFa.out _ HPr.out HOk.out hBr).mono ?_);rintro e9 w9 ⟨rfl,hw9⟩;have HB9:=kp (HBL.out.trans (hw9.mono hszr));clear hw9))
          go_roundw
          case rel => exact ⟨f + 1,by omega,by go_num,HNx.out,HB9.out⟩
          case measure => simp [intOf];omega
        · have hzb : ((c' : Int) != 0) = true:=by rw [bne_iff_ne];omega
          have HE:=kp (qR HC.out (Q.check_fn HCo.out HX.out (by rw [HFa.out];exact hz) HPre.out))
          rw [HFa.out] at HE
          clear hz
          go_wp2_with (first
            | ((with_reducible show Sl 24);go_must (refine j4 rfl 46 (.tmp 1) rfl g1 rfl _ (pgC p) _ HKr.out Try.underlying46 rfl jF ?_))
            | (go_at_call 89;go_must (refine (zH B p fn _ _ HFa.out _ HPr.out HOk.out hBr).mono ?_);rintro e9 w9 ⟨rfl,hw9⟩;have HB9:=kp (HBL.out.trans (hw9.mono hszr));clear hw9))
          go_ret3
          exact ⟨HE.out,HW2.out.trans (HB9.out.mono hs2)⟩
      · have HFine : Kept (∀ j,j < p.fns.length → ¬ Q.badFn p j):=kp fun j hj => HPre.out j (by rw [HLen.out] at hj;omega)
        have hge : p.len ≤ f:=by omega
        clear hlt
        go_wp2_with (first
          | ((with_reducible show Sl 35);go_must (refine j4 rfl 46 (.tmp 1) rfl g1 rfl _ (pgC p) _ HKr.out Try.underlying46 rfl jF ?_))
          | (go_at_call 90;go_must (refine (LF B p _ HPr.out hBr HCo.out HFine.out a b c HC.out).mono ?_);rintro e9 w9 ⟨rfl,hw9⟩;have HB9:=kp (HBL.out.trans (hw9.mono hszr));clear hw9))
        go_ret3
        exact ⟨rfl,HW2.out.trans (HB9.out.mono hs2)⟩
  · obtain ⟨hck,hor⟩:=YB hlen (by rw [hq];exact hq0)
    rw [hq] at hck hor
    have HE:=kp (qR HC.out hck)
    have hqb : ((q : Int) != 0) = true:=by rw [bne_iff_ne];omega
    clear hck hq hlen hq0 hor
    go_enter Try.func75,Try.ntmps75
    go_wp2_with (first
      | ((with_reducible refine j6 rfl 46 (.tmp 0) rfl (pgC p) rfl ?_);intro g1 w1 hg1 hk1 hw1;have HK1:=kp hk1;have HW1:=kp hw1;have hs1:=hw1.size;clear hg1 hk1 hw1)
      | ((with_reducible show Sl 10);go_must (refine j4 rfl 46 (.tmp 1) rfl g1 rfl _ (pgC p) _ HK1.out Try.underlying46 rfl jF ?_))
      | (go_at_call 88;go_must (refine (yV p _ HQ.out _).mono ?_);rintro e9 w2 ⟨rfl,hw2⟩;have HW2:=kp (HW1.out.trans (hw2.mono hs1));clear hw2))
    go_ret3
    exact ⟨HE.out,HW2.out⟩
theorem zG {P : Nat → Prop} : ∀ {n : Nat},Q.firstIdx P n = none → ∀ j,j < n → ¬ P j
  | 0,_,j,hj => by omega
  | n + 1,h,j,hj => by
    simp only [Q.firstIdx] at h
    cases hf : Q.firstIdx P n with
    | some k => rw [hf] at h;cases h
    | none =>
      rw [hf] at h
      simp only at h
      split at h
      · cases h
      · rename_i hp
        by_cases hjn : j = n
        · subst hjn;exact hp
        · exact zG hf j (by omega)
theorem L7 {P : Nat → Prop} : ∀ {n i : Nat},Q.firstIdx P n = some i → i < n ∧ P i
  | 0,i,h => by cases h
  | n + 1,i,h => by
    simp only [Q.firstIdx] at h
    cases hf : Q.firstIdx P n with
    | some k =>
      rw [hf] at h
      cases h
      obtain ⟨h1,h2⟩:=L7 hf
      exact ⟨by omega,h2⟩
    | none =>
      rw [hf] at h
      simp only at h
      split at h
      · rename_i hp
        cases h
        exact ⟨by omega,hp⟩
      · cases h
structure Fine (p : Pg) : Prop where
  counts : Q.Counts p
  nodes : ∀ j,j < p.fns.length → ¬ Q.badFn p j
  round : ∀ j,j < p.fns.length → ¬ Q.badRound p j
theorem xT {p : Pg} {a b : Int} (h : Q.check p = (a,b,0)) : Fine p:=by
  unfold Q.check at h
  split at h
  · cases h
  · split at h
    · cases h
    · rename_i h1 h2
      split at h
      · rename_i f hf
        exfalso
        obtain ⟨hlt,fn,hfn,hb⟩:=L7 hf
        have e : p.fns.getD f default = fn:=by rw [List.getD_eq_getElem?_getD,hfn];rfl
        rw [e] at h
        have:=congrArg (fun x : Int × Int × Nat => x.2.2) h
        exact hb this
      · rename_i hf
        split at h
        · cases h
        · rename_i hr
          exact ⟨⟨by omega,by omega,by omega,by omega⟩,zG hf,zG hr⟩
def more (p : Pg) (g l s : Int) : Pg:={ p with g:=g,l:=l,s:=s }
structure OrdInv (R : Nat → Nat → Prop) (len : Nat) (o0 o : Nat → Bool) (f : Nat) : Prop where
  mono : ∀ g,o0 g = true → o g = true
  rest : ∀ g,f ≤ g → o g = o0 g
  done : ∀ g,g < f → (∀ y,R g y → o0 y = true) → o g = true
theorem OrdInv.start (R : Nat → Nat → Prop) (len : Nat) (o : Nat → Bool) : OrdInv R len o o 0:=⟨fun _ h => h,fun _ _ => rfl,fun g h => by omega⟩
theorem OrdInv.skip {R : Nat → Nat → Prop} {len : Nat} {o0 o : Nat → Bool} {f : Nat} (h : OrdInv R len o0 o f) (hn : ¬ (o f = false ∧ ∀ y,R f y → o y = true)) : OrdInv R len o0 o (f + 1):=by
  refine ⟨h.mono,fun g hg => h.rest g (by omega),fun g hg hc => ?_⟩
  by_cases hgf : g = f
  · subst hgf
    cases ho : o g
    · exact absurd ⟨ho,fun y hy => h.mono y (hc y hy)⟩ hn
    · rfl
  · exact h.done g (by omega) hc
theorem OrdInv.take {R : Nat → Nat → Prop} {len : Nat} {o0 o o' : Nat → Bool} {f : Nat} (h : OrdInv R len o0 o f) (h1 : o' f = true) (h2 : ∀ g,g ≠ f → o' g = o g) : OrdInv R len o0 o' (f + 1):=by
  refine ⟨fun g hg => ?_,fun g hg => ?_,fun g hg hc => ?_⟩
  · by_cases hgf : g = f
    · subst hgf;exact h1
    · rw [h2 g hgf];exact h.mono g hg
  · rw [h2 g (by omega)];exact h.rest g (by omega)
  · by_cases hgf : g = f
    · subst hgf;exact h1
    · rw [h2 g hgf];exact h.done g (by omega) hc
theorem Y9 {p : Pg} (h : Fine p) (hl : p.fns.length = p.len) {x y : Nat} (hc : Q.calls p x y) : y < p.fns.length:=by
  obtain ⟨f,hf,nd,hnd,h7,ha⟩:=hc
  have:=(JN h.nodes f (List.mem_of_getElem? hf) nd hnd h7).2
  omega
theorem YA {p : Pg} (h : Fine p) (hl : p.fns.length = p.len) : ∀ x,x < p.fns.length → ¬ Q.Reach (Q.calls p) p.fns.length x x:=by
  intro x hx hr
  refine h.round x hx ?_
  have key : ∀ y,Q.calls p x y → (y = x ∨ Q.Reach (Q.calls p) p.fns.length y x) → Q.badRound p x:=by
    intro y hc hor
    have hy:=Y9 h hl hc
    obtain ⟨f,hf,nd,hnd,h7,ha⟩:=hc
    obtain ⟨i,hi⟩:=List.mem_iff_getElem?.1 hnd
    exact ⟨i,f,nd,hf,hi,h7,y,ha,hy,hor⟩
  cases hr with
  | one hc => exact key x hc (.inl rfl)
  | more hc hj hr => exact key _ hc (.inr hr)
end Go.Proofs.Ytcbfghcdbmlneaa
namespace Go.Proofs.Ytcbfghcdbmlneaa.M
structure Th where
  stack : List (Nat × Nat)
  slots : List Nat
instance : Inhabited Th:=⟨⟨[],[]⟩⟩
structure Cf where
  ths : List Th
  owners : List Nat
def start : Cf:=⟨[⟨[(0,0)],List.replicate 8 0⟩],List.replicate 16 0⟩
def th (c : Cf) (t : Nat) : Th:=c.ths.getD t default
def livesN (c : Cf) (t : Nat) : Bool:=decide (0 < (th c t).stack.length)
def lives (c : Cf) (t : Int) : Bool:=decide (0 ≤ t) && livesN c t.toNat
def top (s : List (Nat × Nat)) : Nat × Nat:=s.getD (s.length - 1) (0,0)
def nodeAt (p : Pg) (x : Nat × Nat) : Nd:=(p.fns.getD x.1 default).nodes.getD x.2 default
def node (p : Pg) (c : Cf) (t : Nat) : Nd:=nodeAt p (top (th c t).stack)
def enabledN (p : Pg) (c : Cf) (t : Nat) : Bool :=
  livesN c t &&
    (if (node p c t).kind = 3 then decide (c.owners.getD (node p c t).arg.toNat 0 = 0)
     else if (node p c t).kind = 6 then !lives c (((th c t).slots.getD (node p c t).arg.toNat 0 : Int) - 1)
     else if (node p c t).kind = 5 then decide (c.ths.length < 8) else true)
def enabled (p : Pg) (c : Cf) (t : Int) : Bool:=decide (0 ≤ t) && enabledN p c t.toNat
def goOn (s : List (Nat × Nat)) (n : Nat) : List (Nat × Nat):=s.set (s.length - 1) ((top s).1,n)
def act (c : Cf) (t : Nat) (n : Nd) (way : Bool) : Cf :=
  if n.kind = 9 then ⟨c.ths.set t ⟨(th c t).stack.take ((th c t).stack.length - 1),(th c t).slots⟩,c.owners⟩
  else if n.kind = 3 then ⟨c.ths.set t ⟨goOn (th c t).stack n.next.toNat,(th c t).slots⟩,c.owners.set n.arg.toNat (t + 1)⟩
  else if n.kind = 4 then ⟨c.ths.set t ⟨goOn (th c t).stack n.next.toNat,(th c t).slots⟩,if c.owners.getD n.arg.toNat 0 = t + 1 then c.owners.set n.arg.toNat 0 else c.owners⟩
  else if n.kind = 5 then ⟨c.ths.set t ⟨goOn (th c t).stack n.next.toNat,(th c t).slots.set n.alt.toNat (c.ths.length + 1)⟩ ++ [⟨[(n.arg.toNat,0)],List.replicate 8 0⟩],c.owners⟩
  else if n.kind = 7 then ⟨c.ths.set t ⟨goOn (th c t).stack n.next.toNat ++ [(n.arg.toNat,0)],(th c t).slots⟩,c.owners⟩
  else if n.kind = 8 ∧ way = true then ⟨c.ths.set t ⟨goOn (th c t).stack n.alt.toNat,(th c t).slots⟩,c.owners⟩
  else ⟨c.ths.set t ⟨goOn (th c t).stack n.next.toNat,(th c t).slots⟩,c.owners⟩
def step (p : Pg) (c : Cf) (t : Int) (way : Bool) : Cf:=if enabled p c t = true then act c t.toNat (node p c t.toNat) way else c
def heldTo (o : List Nat) (t : Nat) : Nat → Nat
  | 0 => 0
  | k + 1 => if o.getD k 0 = t + 1 then heldTo o t k ||| 2 ^ k else heldTo o t k
def held (c : Cf) (t : Int) : Nat:=if 0 ≤ t ∧ t < (c.ths.length : Int) then heldTo c.owners t.toNat 16 else 0
def Linked (p : Pg) (l : List Nat) : Prop:=∀ i a b,l[i]? = some a → l[i + 1]? = some b → Q.calls p a b
structure Good (p : Pg) (c : Cf) : Prop where
  one : 1 ≤ c.ths.length
  most : c.ths.length ≤ 8
  owns : c.owners.length = 16
  own : ∀ o ∈ c.owners,o ≤ c.ths.length
  eight : ∀ x ∈ c.ths,x.slots.length = 8
  slot : ∀ x ∈ c.ths,∀ s ∈ x.slots,s ≤ 8
  spot : ∀ x ∈ c.ths,∀ f ∈ x.stack,∃ fn,p.fns[f.1]? = some fn ∧ f.2 < fn.nodes.length
  chain : ∀ x ∈ c.ths,Linked p (x.stack.map (·.1))
theorem fine_node {p : Pg} (hf : Fine p) {f i : Nat} {fn : Fn} {x : Nd} (hfn : p.fns[f]? = some fn) (hx : fn.nodes[i]? = some x) : Q.may p.g p.l p.s p.len x fn.nodes.length = true :=
  (Q.fine_fn hfn (hf.nodes f (List.getElem?_eq_some_iff.1 hfn).1)).2.2 i x hx
theorem J4 {p : Pg} (hf : Fine p) {f : Nat} {fn : Fn} (hfn : p.fns[f]? = some fn) : 0 < fn.nodes.length :=
  (Q.fine_fn hfn (hf.nodes f (List.getElem?_eq_some_iff.1 hfn).1)).1
structure Fit (p : Pg) (x : Nd) (nodes : Nat) : Prop where
  kind : 0 ≤ x.kind ∧ x.kind ≤ 9
  next : 0 ≤ x.next
  nextLt : x.kind ≠ 9 → x.next < nodes
  alt : 0 ≤ x.alt
  arg : 0 ≤ x.arg
  lock : x.kind = 3 ∨ x.kind = 4 → x.arg < 16
  join : x.kind = 6 → x.arg < 8
  spawn : x.kind = 5 → x.arg < p.len ∧ x.alt < 8
  call : x.kind = 7 → x.arg < p.len
  branch : x.kind = 8 → x.alt < nodes
theorem fit_of {p : Pg} (hc : Q.Counts p) {x : Nd} {nodes : Nat} (h : Q.may p.g p.l p.s p.len x nodes = true) (h0 : 0 < nodes) : Fit p x nodes:=by
  have hl:=hc.l;have hs:=hc.s
  unfold Q.may at h
  simp only [Bool.and_eq_true,decide_eq_true_eq,List.all_eq_true,List.mem_range] at h
  obtain ⟨hr,hall⟩:=h
  have hk : 0 ≤ x.kind ∧ x.kind ≤ 9:=by
    unfold Q.row at hr
    by_cases hb : x.kind < 0 ∨ 9 < x.kind
    · rw [if_pos hb] at hr;exact absurd rfl hr
    · omega
  have a0:=hall 0 (by omega)
  have a1:=hall 1 (by omega)
  have a2:=hall 2 (by omega)
  simp only [Q.fields,List.getD_cons_zero,List.getD_cons_succ] at a0 a1 a2
  have hrow : Q.row x.kind = Q.rows.getD x.kind.toNat []:=by unfold Q.row;rw [if_neg (by omega)]
  rw [hrow] at a0 a1 a2
  obtain ⟨k,hkk⟩ : ∃ k : Nat,x.kind = (k : Int):=⟨x.kind.toNat,by omega⟩
  rw [hkk] at a0 a1 a2
  simp only [Int.toNat_natCast] at a0 a1 a2
  have hmax : max (nodes : Int) 1 = nodes:=by omega
  have hk9 : k ≤ 9:=by omega
  have cases_ : k = 0 ∨ k = 1 ∨ k = 2 ∨ k = 3 ∨ k = 4 ∨ k = 5 ∨ k = 6 ∨ k = 7 ∨ k = 8 ∨ k = 9:=by omega
  rcases cases_ with rfl | rfl | rfl | rfl | rfl | rfl | rfl | rfl | rfl | rfl <;>
    simp [Q.rows,Q.size,hmax] at a0 a1 a2 <;>
    (refine ⟨hk,by omega,fun h => by omega,by omega,by omega,fun h => by omega,fun h => by omega,fun h => by omega,fun h => by omega,fun h => by omega⟩)
theorem th_mem {c : Cf} {t : Nat} (h : t < c.ths.length) : th c t ∈ c.ths:=by
  unfold th;rw [List.getD_eq_getElem?_getD,List.getElem?_eq_getElem h];exact List.getElem_mem h
theorem th_is {c : Cf} {t : Nat} {x : Th} (h : c.ths[t]? = some x) : th c t = x:=by unfold th;rw [List.getD_eq_getElem?_getD,h];rfl
theorem lives_lt {c : Cf} {t : Nat} (h : livesN c t = true) : t < c.ths.length:=by
  rcases Nat.lt_or_ge t c.ths.length with h1 | h1
  · exact h1
  · exfalso
    unfold livesN th at h
    rw [List.getD_eq_getElem?_getD,List.getElem?_eq_none h1] at h
    exact absurd h (by decide)
theorem top_mem {s : List (Nat × Nat)} (h : 0 < s.length) : top s ∈ s:=by
  unfold top;rw [List.getD_eq_getElem?_getD,List.getElem?_eq_getElem (by omega)];exact List.getElem_mem _
theorem top_at {s : List (Nat × Nat)} (h : 0 < s.length) : s[s.length - 1]? = some (top s):=by
  unfold top;rw [List.getD_eq_getElem?_getD,List.getElem?_eq_getElem (by omega)];rfl
theorem enabled_lives {p : Pg} {c : Cf} {t : Nat} (h : enabledN p c t = true) : livesN c t = true:=by
  unfold enabledN at h;rw [Bool.and_eq_true] at h;exact h.1
theorem node_is {p : Pg} {c : Cf} (hg : Good p c) {t : Nat} (h : livesN c t = true) :
    ∃ fn,p.fns[(top (th c t).stack).1]? = some fn ∧ (top (th c t).stack).2 < fn.nodes.length ∧ fn.nodes[(top (th c t).stack).2]? = some (node p c t):=by
  have ht:=lives_lt h
  have hs : 0 < (th c t).stack.length:=by unfold livesN at h;simpa using h
  obtain ⟨fn,h1,h2⟩:=hg.spot _ (th_mem ht) _ (top_mem hs)
  refine ⟨fn,h1,h2,?_⟩
  unfold node nodeAt
  have e : p.fns.getD (top (th c t).stack).1 default = fn:=by rw [List.getD_eq_getElem?_getD,h1];rfl
  rw [e,List.getD_eq_getElem?_getD,List.getElem?_eq_getElem h2];rfl
theorem node_fit {p : Pg} (hf : Fine p) {c : Cf} (hg : Good p c) {t : Nat} (h : livesN c t = true) {fn : Fn} (hfn : p.fns[(top (th c t).stack).1]? = some fn) : Fit p (node p c t) fn.nodes.length:=by
  obtain ⟨fn',h1,h2,h3⟩:=node_is hg h
  rw [hfn] at h1;cases h1
  exact fit_of hf.counts (fine_node hf hfn h3) (J4 hf hfn)
theorem QI : ∀ (n : Nat) (l : List Nat),l.Nodup → (∀ x ∈ l,x < n) → l.length ≤ n
  | 0,l,_,h => by
    cases l with
    | nil => simp
    | cons x l => exact absurd (h x (by simp)) (by omega)
  | n + 1,l,hn,h => by
    by_cases hm : n ∈ l
    · have:=QI n (l.erase n) (hn.erase n) fun x hx => by
        have h1:=(hn.mem_erase_iff).1 hx
        have:=h x h1.2
        have:=h1.1
        omega
      rw [List.length_erase_of_mem hm] at this
      omega
    · have:=QI n l hn fun x hx => by
        have:=h x hx
        have : x ≠ n:=fun e => hm (e ▸ hx)
        omega
      omega
theorem L8 {p : Pg} (hf : Fine p) (hl : p.fns.length = p.len) {s : List Nat} (hc : Linked p s) :
    ∀ (d i a b : Nat),s[i]? = some a → s[i + d + 1]? = some b → Q.Reach (Q.calls p) p.fns.length a b
  | 0,i,a,b,ha,hb => .one (hc i a b ha hb)
  | d + 1,i,a,b,ha,hb => by
    have hlt : i + d + 1 + 1 < s.length:=by
      have:=(List.getElem?_eq_some_iff.1 hb).1;omega
    have hm:=List.getElem?_eq_getElem (show i + 1 < s.length by omega)
    have h1:=hc i a _ ha hm
    refine .more h1 (Y9 hf hl h1) (L8 hf hl hc d (i + 1) _ b hm ?_)
    rw [show i + 1 + d + 1 = i + (d + 1) + 1 by omega];exact hb
theorem high {p : Pg} (hf : Fine p) (hl : p.fns.length = p.len) {c : Cf} (hg : Good p c) {x : Th} (hx : x ∈ c.ths) : x.stack.length ≤ p.fns.length:=by
  have:=QI p.fns.length (x.stack.map (·.1)) ?_ ?_
  · simpa using this
  · rw [List.nodup_iff_pairwise_ne,List.pairwise_iff_getElem]
    intro i j hi hj hij e
    have hr:=L8 hf hl (hg.chain x hx) (j - i - 1) i _ _ (List.getElem?_eq_getElem hi) (by rw [show i + (j - i - 1) + 1 = j by omega];exact List.getElem?_eq_getElem hj)
    rw [e] at hr
    obtain ⟨f,hfm,hfe⟩:=List.mem_map.1 (List.getElem_mem hj)
    obtain ⟨fn,h1,_⟩:=hg.spot x hx f hfm
    rw [← hfe] at hr
    exact YA hf hl _ (List.getElem?_eq_some_iff.1 h1).1 hr
  · intro y hy
    obtain ⟨f,hfm,rfl⟩:=List.mem_map.1 hy
    obtain ⟨fn,h1,_⟩:=hg.spot x hx f hfm
    exact (List.getElem?_eq_some_iff.1 h1).1
theorem good_start {p : Pg} (hf : Fine p) : Good p start:=by
  have h1:=hf.counts.f.1
  refine ⟨by simp [start],by simp [start],by simp [start],fun o ho => ?_,fun x hx => ?_,fun x hx s hs => ?_,fun x hx f hfm => ?_,fun x hx => ?_⟩
  · have:=List.eq_of_mem_replicate ho;omega
  · have e:=List.mem_singleton.1 hx;subst e;rfl
  · have e:=List.mem_singleton.1 hx;subst e
    have:=List.eq_of_mem_replicate hs;omega
  · have e:=List.mem_singleton.1 hx;subst e
    have e:=List.mem_singleton.1 hfm;subst e
    have h2:=List.getElem?_eq_getElem h1
    exact ⟨_,h2,J4 hf h2⟩
  · have e:=List.mem_singleton.1 hx;subst e
    intro i a b _ hb
    simp at hb
theorem goOn_len (s : List (Nat × Nat)) (n : Nat) : (goOn s n).length = s.length:=by unfold goOn;rw [List.length_set]
theorem goOn_fst (s : List (Nat × Nat)) (n : Nat) : (goOn s n).map (·.1) = s.map (·.1):=by
  apply List.ext_getElem?
  intro i
  unfold goOn
  rw [List.getElem?_map,List.getElem?_map,List.getElem?_set]
  by_cases e : s.length - 1 = i
  · subst e
    rw [if_pos rfl]
    by_cases h : s.length - 1 < s.length
    · rw [if_pos h,List.getElem?_eq_getElem h]
      simp [top,List.getD_eq_getElem?_getD,List.getElem?_eq_getElem h]
    · rw [if_neg h,List.getElem?_eq_none (by omega)]
  · rw [if_neg e]
theorem goOn_mem {s : List (Nat × Nat)} {n : Nat} {f : Nat × Nat} (h : f ∈ goOn s n) : f ∈ s ∨ f = ((top s).1,n):=List.mem_or_eq_of_mem_set h
theorem yA {p : Pg} {c : Cf} (hg : Good p c) (t : Nat) (s : List (Nat × Nat)) (sl ow : List Nat) (h8 : sl.length = 8) (hs8 : ∀ x ∈ sl,x ≤ 8) (hsp : ∀ f ∈ s,∃ fn,p.fns[f.1]? = some fn ∧ f.2 < fn.nodes.length)
    (hch : Linked p (s.map (·.1))) (h16 : ow.length = 16) (how : ∀ o ∈ ow,o ≤ c.ths.length) : Good p ⟨c.ths.set t ⟨s,sl⟩,ow⟩:=by
  have key : ∀ x ∈ c.ths.set t ⟨s,sl⟩,x ∈ c.ths ∨ x = ⟨s,sl⟩:=fun x hx => List.mem_or_eq_of_mem_set hx
  refine ⟨by simpa using hg.one,by simpa using hg.most,h16,by simpa using how,fun x hx => ?_,fun x hx => ?_,fun x hx => ?_,fun x hx => ?_⟩
  · rcases key x hx with h | rfl
    · exact hg.eight x h
    · exact h8
  · rcases key x hx with h | rfl
    · exact hg.slot x h
    · exact hs8
  · rcases key x hx with h | rfl
    · exact hg.spot x h
    · exact hsp
  · rcases key x hx with h | rfl
    · exact hg.chain x h
    · exact hch
theorem uD {l : List Nat} {k v b : Nat} (h : ∀ x ∈ l,x ≤ b) (hv : v ≤ b) : ∀ x ∈ l.set k v,x ≤ b:=fun x hx => by
  rcases List.mem_or_eq_of_mem_set hx with h1 | rfl
  · exact h x h1
  · exact hv
theorem linked_snoc {p : Pg} {l : List Nat} (h : Linked p l) {y : Nat} (hy : ∀ a,l[l.length - 1]? = some a → Q.calls p a y) : Linked p (l ++ [y]):=by
  intro i a b ha hb
  have hlt:=(List.getElem?_eq_some_iff.1 hb).1
  simp only [List.length_append,List.length_singleton] at hlt
  rw [List.getElem?_append_left (by omega)] at ha
  by_cases e : i + 1 < l.length
  · rw [List.getElem?_append_left e] at hb
    exact h i a b ha hb
  · have e2 : i = l.length - 1:=by omega
    rw [List.getElem?_append_right (by omega)] at hb
    have e3 : i + 1 - l.length = 0:=by omega
    rw [e3] at hb
    simp at hb
    subst hb
    exact hy a (by rw [← e2];exact ha)
theorem good_act {p : Pg} (hf : Fine p) (hl : p.fns.length = p.len) {c : Cf} (hg : Good p c) {t : Nat} (he : enabledN p c t = true) (way : Bool) : Good p (act c t (node p c t) way):=by
  have hlv:=enabled_lives he
  have ht:=lives_lt hlv
  have hm:=th_mem ht
  have hs0 : 0 < (th c t).stack.length:=by unfold livesN at hlv;simpa using hlv
  obtain ⟨fn,hfn,hin,hnd⟩:=node_is hg hlv
  have hfit:=node_fit hf hg hlv hfn
  obtain ⟨n,hn⟩ : ∃ n,node p c t = n:=⟨_,rfl⟩
  rw [hn] at hfit hnd
  have e8:=hg.eight _ hm
  have s8:=hg.slot _ hm
  have spot : ∀ m : Nat,m < fn.nodes.length → ∀ f ∈ goOn (th c t).stack m,∃ fn,p.fns[f.1]? = some fn ∧ f.2 < fn.nodes.length:=fun m hm2 f hfm => by
    rcases goOn_mem hfm with h | rfl
    · exact hg.spot _ hm f h
    · exact ⟨fn,hfn,hm2⟩
  have chain : ∀ m : Nat,Linked p ((goOn (th c t).stack m).map (·.1)):=fun m => by rw [goOn_fst];exact hg.chain _ hm
  have hk:=hfit.kind
  have h0:=hfit.next;have h1:=hfit.nextLt;have ha:=hfit.arg
  unfold act
  rw [hn]
  by_cases k9 : n.kind = 9
  · rw [if_pos k9]
    refine yA hg t _ _ _ e8 s8 (fun f hfm => hg.spot _ hm f (List.mem_of_mem_take hfm)) ?_ hg.owns hg.own
    intro i a b hA hB
    rw [List.map_take] at hA hB
    have hlt:=(List.getElem?_eq_some_iff.1 hB).1
    rw [List.length_take] at hlt
    rw [List.getElem?_take,if_pos (by omega)] at hA hB
    exact hg.chain _ hm i a b hA hB
  rw [if_neg k9]
  have hnx : n.next.toNat < fn.nodes.length:=by have:=h1 k9;omega
  by_cases k3 : n.kind = 3
  · rw [if_pos k3]
    exact yA hg t _ _ _ e8 s8 (spot _ hnx) (chain _) (by rw [List.length_set];exact hg.owns) (uD hg.own (by omega))
  rw [if_neg k3]
  by_cases k4 : n.kind = 4
  · rw [if_pos k4]
    refine yA hg t _ _ _ e8 s8 (spot _ hnx) (chain _) ?_ ?_
    · split
      · rw [List.length_set];exact hg.owns
      · exact hg.owns
    · split
      · exact uD hg.own (by omega)
      · exact hg.own
  rw [if_neg k4]
  by_cases k5 : n.kind = 5
  · rw [if_pos k5]
    have h8 : c.ths.length < 8:=by
      unfold enabledN at he
      rw [hn,if_neg k3,if_neg (by omega),if_pos k5] at he
      rw [Bool.and_eq_true,decide_eq_true_eq] at he
      exact he.2
    have hG:=yA hg t (goOn (th c t).stack n.next.toNat) ((th c t).slots.set n.alt.toNat (c.ths.length + 1)) c.owners (by rw [List.length_set];exact e8) (uD s8 (by omega)) (spot _ hnx) (chain _) hg.owns hg.own
    have hsp:=hfit.spawn k5
    have h2 : n.arg.toNat < p.fns.length:=by omega
    have h3:=List.getElem?_eq_getElem h2
    refine ⟨by simp,by simp;omega,hg.owns,fun o ho => ?_,fun x hx => ?_,fun x hx => ?_,fun x hx => ?_,fun x hx => ?_⟩
    · have:=hg.own o ho
      simp;omega
    all_goals rcases List.mem_append.1 hx with h | h
    · exact hG.eight x h
    · have e:=List.mem_singleton.1 h;subst e;rfl
    · exact hG.slot x h
    · have e:=List.mem_singleton.1 h;subst e
      intro s hs
      have:=List.eq_of_mem_replicate hs;omega
    · exact hG.spot x h
    · have e:=List.mem_singleton.1 h;subst e
      intro f hfm
      have e:=List.mem_singleton.1 hfm;subst e
      exact ⟨_,h3,J4 hf h3⟩
    · exact hG.chain x h
    · have e:=List.mem_singleton.1 h;subst e
      intro i a b _ hb
      simp at hb
  rw [if_neg k5]
  by_cases k7 : n.kind = 7
  · rw [if_pos k7]
    have hcl : Q.calls p (top (th c t).stack).1 n.arg.toNat:=⟨fn,hfn,n,List.mem_of_getElem? hnd,k7,by omega⟩
    have h2:=Y9 hf hl hcl
    have h3:=List.getElem?_eq_getElem h2
    refine yA hg t _ _ _ e8 s8 (fun f hfm => ?_) ?_ hg.owns hg.own
    · rcases List.mem_append.1 hfm with h | h
      · exact spot _ hnx f h
      · have e:=List.mem_singleton.1 h;subst e
        exact ⟨_,h3,J4 hf h3⟩
    · rw [List.map_append]
      refine linked_snoc (chain _) fun a ha2 => ?_
      rw [goOn_fst,List.length_map,List.getElem?_map,top_at hs0] at ha2
      cases ha2
      exact hcl
  rw [if_neg k7]
  by_cases k8 : n.kind = 8 ∧ way = true
  · rw [if_pos k8]
    have:=hfit.branch k8.1
    have:=hfit.alt
    exact yA hg t _ _ _ e8 s8 (spot _ (by omega)) (chain _) hg.owns hg.own
  · rw [if_neg k8]
    exact yA hg t _ _ _ e8 s8 (spot _ hnx) (chain _) hg.owns hg.own
theorem good_step {p : Pg} (hf : Fine p) (hl : p.fns.length = p.len) {c : Cf} (hg : Good p c) (t : Int) (way : Bool) : Good p (step p c t way):=by
  unfold step
  split
  · rename_i h
    unfold enabled at h
    rw [Bool.and_eq_true] at h
    exact good_act hf hl hg h.2 way
  · exact hg
end Go.Proofs.Ytcbfghcdbmlneaa.M
namespace Go.Proofs.Ytcbfghcdbmlneaa.M
theorem enabled_split {p : Pg} {c : Cf} {t : Int} (h : enabled p c t = true) : 0 ≤ t ∧ enabledN p c t.toNat = true:=by
  unfold enabled at h
  rw [Bool.and_eq_true,decide_eq_true_eq] at h
  exact h
theorem step_same {p : Pg} {c : Cf} {t : Int} {way : Bool} (h : enabled p c t = false) : step p c t way = c:=by
  unfold step;rw [h];rfl
theorem lives_nat (c : Cf) (u : Nat) : lives c (u : Int) = livesN c u:=by simp [lives]
theorem step_way {p : Pg} {c : Cf} {t : Nat} (h : ¬ (livesN c t = true ∧ (node p c t).kind = 8 ∧ (node p c t).next ≠ (node p c t).alt)) : step p c t false = step p c t true:=by
  unfold step
  split
  · rename_i he
    obtain ⟨h0,h1⟩:=enabled_split he
    rw [Int.toNat_natCast] at h1 ⊢
    have hl:=enabled_lives h1
    obtain ⟨n,hn⟩ : ∃ n,node p c t = n:=⟨_,rfl⟩
    rw [hn] at h ⊢
    unfold act
    by_cases k8 : n.kind = 8
    · have e : n.next = n.alt:=by
        by_cases e : n.next = n.alt
        · exact e
        · exact absurd ⟨hl,k8,e⟩ h
      have n9 : ¬ n.kind = 9:=by omega
      have n3 : ¬ n.kind = 3:=by omega
      have n4 : ¬ n.kind = 4:=by omega
      have n5 : ¬ n.kind = 5:=by omega
      have n7 : ¬ n.kind = 7:=by omega
      have key : ∀ b : Bool,(if n.kind = 8 ∧ b = true then (⟨c.ths.set t ⟨goOn (th c t).stack n.alt.toNat,(th c t).slots⟩,c.owners⟩ : Cf) else ⟨c.ths.set t ⟨goOn (th c t).stack n.next.toNat,(th c t).slots⟩,c.owners⟩) = ⟨c.ths.set t ⟨goOn (th c t).stack n.alt.toNat,(th c t).slots⟩,c.owners⟩:=fun b => by
        rw [e];exact ite_self _
      rw [if_neg n9,if_neg n3,if_neg n4,if_neg n5,if_neg n7,if_neg n9,if_neg n3,if_neg n4,if_neg n5,if_neg n7,key false,key true]
    · have key : ∀ b : Bool,(if n.kind = 8 ∧ b = true then (⟨c.ths.set t ⟨goOn (th c t).stack n.alt.toNat,(th c t).slots⟩,c.owners⟩ : Cf) else ⟨c.ths.set t ⟨goOn (th c t).stack n.next.toNat,(th c t).slots⟩,c.owners⟩) = ⟨c.ths.set t ⟨goOn (th c t).stack n.next.toNat,(th c t).slots⟩,c.owners⟩:=fun b => if_neg fun h => k8 h.1
      rw [key false,key true]
  · rfl
end Go.Proofs.Ytcbfghcdbmlneaa.M
namespace Go.Proofs.Ytcbfghcdbmlneaa
open Go.RowKit
theorem LN {P : Program} {ops : Array Oper} {rest : List Oper} {o : Oper} {a : Act} {w : World} {Q : Exit → Act → World → Prop} (hgd : o.guard = none) (ty : TypeId) (x : Operand) (ho : o.op = .box ty x)
    (v : Value) (hx : a.eval x = v) (hv : v.cells = #[v])
    (h : ∀ g w',w.heap.size ≤ g → Blk w' g ty [v] → Below w.heap.size w w' → wpList P ops Q rest (a.put o.dst (.pointer (some ⟨g,0,none⟩))) w') : wpList P ops Q (o :: rest) a w:=by
  refine wpList_plain hgd fun K hK => ?_
  unfold Oper.wp
  simp [execOp,ho,hx,Instr.box,newVar,newRow,hv,Result.andThen]
  exact hK _ _ (h _ _ (Nat.le_refl _) (Blk.newAt rfl rfl) ((Below.refl _ _).alloc (Nat.le_refl _) _))
theorem Var.new {w : World} {S : Nat → Prop} {g : Nat} {t e : TypeId} {v : Value} {xs : List Value} (hb : Blk w g t [v]) (ho : Own w 0 e v xs) (hne : v.ownBlock ≠ some g) (hg : ¬ S g) (hS : ∀ k,v.ownBlock = some k → ¬ S k) (hl : ∀ k,S k → k < w.heap.size) : Var w S g t e xs :=
  ⟨v,hb,ho,hne,hg,hS,hl⟩
def frV (f : Nat × Nat) : Nat → Value
  | 0 => .int .i64 (f.1 : Int)
  | _ => .int .i64 (f.2 : Int)
structure Sv where
  A : Option Addr
  len : Nat
  cap : Nat
  stack : List (Nat × Nat)
instance : Inhabited Sv:=⟨⟨none,0,0,[]⟩⟩
def svV (x : Sv) : Value:=.slice x.A x.len x.cap
structure Sv.Ok (x : Sv) (w : World) (B : Nat) : Prop where
  row : Recs 2 frV w B x.A x.len x.stack
  lc : x.len ≤ x.cap
  cm : x.cap ≤ maxLen
structure Tv where
  sv : Sv
  slots : List Nat
instance : Inhabited Tv:=⟨⟨default,[]⟩⟩
def tvV (x : Tv) : Nat → Value
  | 0 => .slice x.sv.A x.sv.len x.sv.cap
  | j + 1 => .int .i64 (x.slots.getD j 0 : Int)
def tvT (x : Tv) : M.Th:=⟨x.sv.stack,x.slots⟩
structure Pc where
  A : Option Addr
  len : Nat
  cap : Nat
  tvs : List Tv
  ow : List Nat
def pcC (q : Pc) : List Value:=.slice q.A q.len q.cap :: q.ow.map natV
def pcA (q : Pc) : Value:=.agg (pcC q).toArray
def Pc.cf (q : Pc) : M.Cf:=⟨q.tvs.map tvT,q.ow⟩
structure Pc.Ok (q : Pc) (w : World) (B : Nat) : Prop where
  row : Recs 9 tvV w B q.A q.len q.tvs
  lc : q.len ≤ q.cap
  cm : q.cap ≤ maxLen
  svs : ∀ x ∈ q.tvs,x.sv.Ok w B
theorem Sv.Ok.keep {x : Sv} {w w' : World} {B : Nat} (h : x.Ok w B) (hk : ∀ p : Addr,p.block < B → w'.cell? p = w.cell? p) : x.Ok w' B:=⟨h.row.keep hk,h.lc,h.cm⟩
theorem Sv.Ok.more {x : Sv} {w : World} {B B' : Nat} (h : x.Ok w B) (hB : B ≤ B') : x.Ok w B':=⟨h.row.more hB,h.lc,h.cm⟩
theorem Pc.Ok.keep {q : Pc} {w w' : World} {B : Nat} (h : q.Ok w B) (hk : ∀ p : Addr,p.block < B → w'.cell? p = w.cell? p) : q.Ok w' B:=⟨h.row.keep hk,h.lc,h.cm,fun x hx => (h.svs x hx).keep hk⟩
theorem Pc.Ok.below {q : Pc} {w w' : World} {B : Nat} (h : q.Ok w B) (hb : Below B w w') : q.Ok w' B:=h.keep fun _ hp => hb.cell hp
theorem Pc.Ok.more {q : Pc} {w : World} {B B' : Nat} (h : q.Ok w B) (hB : B ≤ B') : q.Ok w B':=⟨h.row.more hB,h.lc,h.cm,fun x hx => (h.svs x hx).more hB⟩
theorem Pc.ths_len (q : Pc) : q.cf.ths.length = q.tvs.length:=by simp [Pc.cf]
theorem Pc.Ok.len {q : Pc} {w : World} {B : Nat} (h : q.Ok w B) : q.cf.ths.length = q.len:=by rw [q.ths_len];exact h.row.len
theorem Pc.th_of {q : Pc} {k : Nat} {x : Tv} (h : q.tvs[k]? = some x) : M.th q.cf k = tvT x:=M.th_is (by show (q.tvs.map tvT)[k]? = _;rw [List.getElem?_map,h];rfl)
theorem Pc.Ok.thread {q : Pc} {w : World} {B : Nat} (h : q.Ok w B) {k : Nat} (hk : k < q.len) :
    ∃ ad x,q.A = some ad ∧ ad.block < B ∧ q.tvs[k]? = some x ∧ x.sv.Ok w B ∧ M.th q.cf k = tvT x ∧ x.sv.stack.length = x.sv.len ∧ w.cell? (ad.add (k * 9)) = some (.slice x.sv.A x.sv.len x.sv.cap) ∧
      ∀ j,w.cell? ⟨(ad.add (k * 9)).block,(ad.add (k * 9)).off + (j + 1),none⟩ = some (.int .i64 (x.slots.getD j 0 : Int)) ∨ 8 ≤ j:=by
  obtain ⟨ad,x,e,hb,hx,h0,hc⟩:=h.row.field hk
  refine ⟨ad,x,e,hb,hx,h.svs x (List.mem_of_getElem? hx),Pc.th_of hx,(h.svs x (List.mem_of_getElem? hx)).row.len,h0 (by omega),fun j => ?_⟩
  rcases Nat.lt_or_ge j 8 with hj | hj
  · exact .inl (hc (j + 1) (by omega) (by omega))
  · exact .inr hj
theorem Sv.Ok.last {x : Sv} {w : World} {B : Nat} (h : x.Ok w B) (h0 : 0 < x.len) :
    ∃ ad,x.A = some ad ∧ ad.block < B ∧ w.cell? (ad.add ((x.len - 1) * 2)) = some (.int .i64 ((M.top x.stack).1 : Int)) ∧ w.cell? ⟨(ad.add ((x.len - 1) * 2)).block,(ad.add ((x.len - 1) * 2)).off + 1,none⟩ = some (.int .i64 ((M.top x.stack).2 : Int)):=by
  obtain ⟨ad,f,e,hb,hx,hc0,hc⟩:=h.row.field (k:=x.len - 1) (by omega)
  have ef : M.top x.stack = f:=by
    unfold M.top
    rw [h.row.len,List.getD_eq_getElem?_getD,hx];rfl
  rw [ef]
  exact ⟨ad,e,hb,hc0 (by omega),hc 1 (by omega) (by omega)⟩
theorem JL {c : M.Cf} {t : Int} (h : t < 0 ∨ (c.ths.length : Int) ≤ t) : M.lives c t = false:=by
  unfold M.lives
  by_cases h0 : 0 ≤ t
  · rw [decide_eq_true h0,Bool.true_and]
    cases hl : M.livesN c t.toNat with
    | false => rfl
    | true => have:=M.lives_lt hl;omega
  · rw [decide_eq_false h0];rfl
theorem lives_in {c : M.Cf} {t : Nat} {x : M.Th} (h : M.th c t = x) : M.lives c (t : Int) = decide (0 < x.stack.length):=by
  rw [M.lives_nat];unfold M.livesN;rw [h]
section
variable {α : Type} {sz : Nat} {f : α → Nat → Value} {w w' : World} {B : Nat} {e : TypeId} {l : List α}
theorem OwnR.blk {A : Option Addr} {n cap : Nat} (h : OwnR sz f w B e (.slice A n cap) l) (h0 : 0 < n) :
    ∃ g cur,A = some ⟨g,0,none⟩ ∧ Blk w g e cur ∧ cur.length = cap * sz ∧ cur.take (n * sz) = cellsR sz f l ∧ B ≤ g ∧ n ≤ cap ∧ cap ≤ maxLen ∧ l.length = n:=by
  rcases h.2 with ⟨hv,hz⟩ | ⟨g,cap',cur,hv,hB,hg,hn,hm,hs,ht⟩
  · injection hv with _ e2 _;omega
  · injection hv with e1 e2 e3
    subst e1 e3
    rw [← e2] at hn ht
    exact ⟨g,cur.toList,rfl,by unfold Blk;simpa using hg,by simpa using hs,ht,hB,hn,hm,e2.symm⟩
theorem OwnR.of_blk {g n cap : Nat} {cur : List Value} (hb : Blk w g e cur) (hB : B ≤ g) (hl : l.length = n) (hn : n ≤ cap) (hm : cap ≤ maxLen) (hs : cur.length = cap * sz) (ht : cur.take (n * sz) = cellsR sz f l) : OwnR sz f w B e (.slice (some ⟨g,0,none⟩) n cap) l:=by
  subst hl
  exact ⟨qJ sz f l,.inr ⟨g,cap,cur.toArray,rfl,hB,hb,hn,hm,by simpa using hs,by simpa using ht⟩⟩
theorem OwnR.len_is {A : Option Addr} {n cap : Nat} (h : OwnR sz f w B e (.slice A n cap) l) : l.length = n ∧ n ≤ cap ∧ cap ≤ maxLen:=by
  obtain ⟨A',c',hv,h1,h2,_⟩:=h.form
  injection hv with _ e2 e3
  omega
theorem OwnR.recs {A : Option Addr} {n cap : Nat} (h : OwnR sz f w B e (.slice A n cap) l) : Recs sz f w w.heap.size A n l:=by
  obtain ⟨A',c',hv,h1,h2,h3⟩:=h.form
  injection hv with e1 e2 e3
  rw [e1,e2];exact h3
theorem OwnR.less {v : Value} {B' : Nat} (h : OwnR sz f w B e v l) (hB : B' ≤ B) : OwnR sz f w B' e v l:=by
  rcases h.2 with h1 | ⟨g,cap,cur,hv,hB1,rest⟩
  · exact ⟨h.1,.inl h1⟩
  · exact ⟨h.1,.inr ⟨g,cap,cur,hv,by omega,rest⟩⟩
theorem uG {j : Nat} {x x' : α} {v : Value} : ∀ {l : List α} {k : Nat},l[k]? = some x → j < sz → (∀ i,i < sz → f x' i = if i = j then v else f x i) → cellsR sz f (l.set k x') = (cellsR sz f l).set (k * sz + j) v:=by
  intro l k hx hj hf
  apply List.ext_getElem?
  intro i
  have hk : k < l.length:=(List.getElem?_eq_some_iff.1 hx).1
  have hlen : (cellsR sz f (l.set k x')).length = l.length * sz:=by rw [qJ,List.length_set]
  have hlen2 : (cellsR sz f l).length = l.length * sz:=qJ sz f l
  have hkb : k * sz + sz ≤ l.length * sz:=by
    have:=Nat.mul_le_mul_right sz (show k + 1 ≤ l.length from hk)
    rw [Nat.add_mul,Nat.one_mul] at this;exact this
  rw [List.getElem?_set]
  rcases Nat.lt_or_ge i (l.length * sz) with hi | hi
  · have hsz : 0 < sz:=by omega
    have hq : i = i / sz * sz + i % sz:=by have:=Nat.div_add_mod i sz;rw [Nat.mul_comm] at this;omega
    have hr : i % sz < sz:=Nat.mod_lt _ hsz
    have hd : i / sz < l.length:=by
      rcases Nat.lt_or_ge (i / sz) l.length with h | h
      · exact h
      · have:=Nat.mul_le_mul_right sz h;omega
    generalize i / sz = a at hq hd
    generalize i % sz = b at hq hr
    subst hq
    by_cases e : a = k
    · subst e
      rw [lZ sz f (l.set a x') a b x' (by rw [List.getElem?_set,if_pos rfl,if_pos hk]) hr,hf b hr]
      by_cases eb : b = j
      · subst eb
        rw [if_pos rfl,if_pos rfl,if_pos (by omega)]
      · rw [if_neg eb,if_neg (by omega),lZ sz f l a b x hx hr]
    · have hya : l[a]? = some l[a]:=List.getElem?_eq_getElem hd
      rw [lZ sz f (l.set k x') a b l[a] (by rw [List.getElem?_set,if_neg (fun h => e h.symm)];exact hya) hr,lZ sz f l a b l[a] hya hr]
      rw [if_neg]
      intro h
      rcases Nat.lt_or_ge a k with h1 | h1
      · have:=Nat.mul_le_mul_right sz (show a + 1 ≤ k from h1)
        rw [Nat.add_mul,Nat.one_mul] at this;omega
      · have:=Nat.mul_le_mul_right sz (show k + 1 ≤ a by omega)
        rw [Nat.add_mul,Nat.one_mul] at this;omega
  · rw [List.getElem?_eq_none (by omega),if_neg (by omega),List.getElem?_eq_none (by omega)]
theorem OwnR.set {g n cap k j : Nat} {x x' : α} {v : Value} (h : OwnR sz f w B e (.slice (some ⟨g,0,none⟩) n cap) l) (hx : l[k]? = some x) (hj : j < sz) (hf : ∀ i,i < sz → f x' i = if i = j then v else f x i) {cur cur' : List Value} (hb : Blk w g e cur)
    (hc : cur' = cur.set (k * sz + j) v) (hb' : Blk w' g e cur') : OwnR sz f w' B e (.slice (some ⟨g,0,none⟩) n cap) (l.set k x'):=by
  have hk : k < l.length:=(List.getElem?_eq_some_iff.1 hx).1
  have hln:=h.len_is.1
  obtain ⟨g',cur2,e1,hb2,hs,ht,hB,hn,hm,hl⟩:=h.blk (by omega)
  injection e1 with e1
  injection e1 with e1
  subst e1
  have ec : cur2 = cur:=by
    unfold Blk at hb hb2
    rw [hb] at hb2
    have:=Option.some.inj hb2
    injection this with h1 h2 h3
    have:=congrArg Array.toList h1
    simpa using this.symm
  subst ec
  refine OwnR.of_blk hb' hB (by rw [List.length_set];exact hl) hn hm (by rw [hc,List.length_set];exact hs) ?_
  rw [hc,uG hx hj hf,← ht,List.take_set]
end
structure Fam (e : TypeId) (w : World) (B : Nat) (S : Nat → Prop) (l : List Sv) : Prop where
  own : ∀ (k : Nat) (x : Sv),l[k]? = some x → OwnR 2 frV w B e (svV x) x.stack
  out : ∀ (k : Nat) (x : Sv) (b : Nat),l[k]? = some x → (svV x).ownBlock = some b → ¬ S b
  apart : ∀ (k j : Nat) (x y : Sv) (b : Nat),l[k]? = some x → l[j]? = some y → (svV x).ownBlock = some b → (svV y).ownBlock = some b → k = j
section
variable {e : TypeId} {w w' : World} {B : Nat} {S S' : Nat → Prop} {l : List Sv}
theorem Fam.nil (e : TypeId) (w : World) (B : Nat) (S : Nat → Prop) : Fam e w B S []:=⟨fun _ _ h => by simp at h,fun _ _ _ h => by simp at h,fun _ _ _ _ _ h => by simp at h⟩
theorem Fam.block (h : Fam e w B S l) {k : Nat} {x : Sv} {b : Nat} (hx : l[k]? = some x) (hb : (svV x).ownBlock = some b) : B ≤ b ∧ b < w.heap.size:=(h.own k x hx).block b hb
theorem Fam.turn (h : Fam e w B S l) {row : Option Nat} (hg : w.grownBy w' row) (hr : ∀ b,row = some b → S b) : Fam e w' B S l :=
  ⟨fun k x hx => (h.own k x hx).far hg (by
    cases hv : (svV x).ownBlock with
    | none => exact .inl rfl
    | some b => exact .inr fun e1 => h.out k x b hx hv (hr b e1.symm)),h.out,h.apart⟩
theorem Fam.below (h : Fam e w B S l) {C : Nat} (hb : Below C w w') (hC : w.heap.size ≤ C) : Fam e w' B S l:=⟨fun k x hx => (h.own k x hx).below hb hC,h.out,h.apart⟩
theorem Fam.less (h : Fam e w B S l) (hS : ∀ b,S' b → S b ∨ w.heap.size ≤ b) : Fam e w B S' l :=
  ⟨h.own,fun k x b hx hb hs => by
    rcases hS b hs with h1 | h1
    · exact h.out k x b hx hb h1
    · have:=(h.block hx hb).2;omega,h.apart⟩
theorem Fam.set (h : Fam e w B S l) {k : Nat} {x x' : Sv} (hx : l[k]? = some x) (hg : w.grownBy w' (svV x).ownBlock) (ho : OwnR 2 frV w' B e (svV x') x'.stack)
    (hb : (svV x').ownBlock = (svV x).ownBlock ∨ ∀ b,(svV x').ownBlock = some b → w.heap.size ≤ b) (hS : ∀ b,S b → b < w.heap.size) : Fam e w' B S (l.set k x'):=by
  have hk : k < l.length:=(List.getElem?_eq_some_iff.1 hx).1
  have key : ∀ j y,(l.set k x')[j]? = some y → (j = k ∧ y = x') ∨ (j ≠ k ∧ l[j]? = some y):=fun j y hy => by
    rw [List.getElem?_set] at hy
    by_cases e1 : k = j
    · subst e1
      rw [if_pos rfl,if_pos hk] at hy
      exact .inl ⟨rfl,(Option.some.inj hy).symm⟩
    · rw [if_neg e1] at hy
      exact .inr ⟨fun e2 => e1 e2.symm,hy⟩
  have far : ∀ j y b,j ≠ k → l[j]? = some y → (svV y).ownBlock = some b → (svV x').ownBlock ≠ some b:=fun j y b hne hy hb1 hb2 => by
    rcases hb with hb | hb
    · exact hne (h.apart j k y x b hy hx hb1 (by rw [← hb];exact hb2))
    · have:=hb b hb2
      have:=(h.block hy hb1).2
      omega
  refine ⟨fun j y hy => ?_,fun j y b hy hb1 hs => ?_,fun i j y z b hy hz hb1 hb2 => ?_⟩
  · rcases key j y hy with ⟨_,rfl⟩ | ⟨hne,hy⟩
    · exact ho
    · refine (h.own j y hy).far hg ?_
      cases hv : (svV y).ownBlock with
      | none => exact .inl rfl
      | some b => exact .inr fun e1 => hne (h.apart j k y x b hy hx hv e1.symm)
  · rcases key j y hy with ⟨_,rfl⟩ | ⟨hne,hy⟩
    · rcases hb with hb | hb
      · exact h.out k x b hx (by rw [← hb];exact hb1) hs
      · have:=hb b hb1
        have:=hS b hs
        omega
    · exact h.out j y b hy hb1 hs
  · rcases key i y hy with ⟨e1,e2⟩ | ⟨hne,hy'⟩
    · rcases key j z hz with ⟨e3,_⟩ | ⟨hne2,hz'⟩
      · rw [e1,e3]
      · rw [e2] at hb1;exact absurd hb1 (far j z b hne2 hz' hb2)
    · rcases key j z hz with ⟨_,e4⟩ | ⟨hne2,hz'⟩
      · rw [e4] at hb2;exact absurd hb2 (far i y b hne hy' hb1)
      · exact h.apart i j y z b hy' hz' hb1 hb2
theorem Fam.push (h : Fam e w B S l) {x : Sv} (hg : w.grownBy w' none) (ho : OwnR 2 frV w' B e (svV x) x.stack) (hb : ∀ b,(svV x).ownBlock = some b → w.heap.size ≤ b) (hS : ∀ b,S b → b < w.heap.size) : Fam e w' B S (l ++ [x]):=by
  have key : ∀ j y,(l ++ [x])[j]? = some y → (j = l.length ∧ y = x) ∨ (j < l.length ∧ l[j]? = some y):=fun j y hy => by
    rcases Nat.lt_or_ge j l.length with h1 | h1
    · rw [List.getElem?_append_left h1] at hy
      exact .inr ⟨h1,hy⟩
    · have h2:=(List.getElem?_eq_some_iff.1 hy).1
      simp only [List.length_append,List.length_singleton] at h2
      have e1 : j = l.length:=by omega
      subst e1
      rw [List.getElem?_append_right (Nat.le_refl _),Nat.sub_self] at hy
      exact .inl ⟨rfl,by simpa using hy.symm⟩
  refine ⟨fun j y hy => ?_,fun j y b hy hb1 hs => ?_,fun i j y z b hy hz hb1 hb2 => ?_⟩
  · rcases key j y hy with ⟨_,rfl⟩ | ⟨_,hy⟩
    · exact ho
    · exact (h.own j y hy).far hg (by cases (svV y).ownBlock <;> simp)
  · rcases key j y hy with ⟨_,rfl⟩ | ⟨_,hy⟩
    · have:=hb b hb1;have:=hS b hs;omega
    · exact h.out j y b hy hb1 hs
  · rcases key i y hy with ⟨e1,e2⟩ | ⟨h1,hy'⟩
    · rcases key j z hz with ⟨e3,_⟩ | ⟨h2,hz'⟩
      · rw [e1,e3]
      · rw [e2] at hb1
        have:=hb b hb1;have:=(h.block hz' hb2).2;omega
    · rcases key j z hz with ⟨_,e4⟩ | ⟨h2,hz'⟩
      · rw [e4] at hb2
        have:=hb b hb2;have:=(h.block hy' hb1).2;omega
      · exact h.apart i j y z b hy' hz' hb1 hb2
end
structure St (w : World) (B gN gU : Nat) (q : Pc) : Prop where
  conf : Blk w gN 91 (pcC q)
  row : OwnR 9 tvV w B 155 (.slice q.A q.len q.cap) q.tvs
  fam : Fam 175 w B (fun b => b = gN ∨ b = gU ∨ (Value.slice q.A q.len q.cap).ownBlock = some b) (q.tvs.map (·.sv))
  ne : ∀ b,(Value.slice q.A q.len q.cap).ownBlock = some b → b ≠ gN ∧ b ≠ gU
  low : B ≤ gN ∧ gU < w.heap.size
theorem St.below {w w' : World} {B gN gU C : Nat} {q : Pc} (h : St w B gN gU q) (hb : Below C w w') (hC : w.heap.size ≤ C) : St w' B gN gU q :=
  ⟨h.conf.below hb (Nat.lt_of_lt_of_le h.conf.lt hC),h.row.below hb hC,h.fam.below hb hC,h.ne,h.low.1,Nat.lt_of_lt_of_le h.low.2 hb.size⟩
theorem St.drewN {w : World} {B gN gU : Nat} {q : Pc} (h : St w B gN gU q) (k : Nat) : St (w.drewN k) B gN gU q:=h.below (below_drewN (Below.refl w.heap.size w) k) (Nat.le_refl _)
theorem St.ok {w : World} {B gN gU : Nat} {q : Pc} (h : St w B gN gU q) : q.Ok w w.heap.size :=
  ⟨h.row.recs,h.row.len_is.2.1,h.row.len_is.2.2,fun x hx => by
    obtain ⟨k,hk⟩:=List.mem_iff_getElem?.1 hx
    have ho:=h.fam.own k x.sv (by rw [List.getElem?_map,hk];rfl)
    exact ⟨ho.recs,ho.len_is.2.1,ho.len_is.2.2⟩⟩
theorem St.thread {w : World} {B gN gU k : Nat} {q : Pc} (h : St w B gN gU q) (hk : k < q.len) :
    ∃ gT cur x,q.A = some ⟨gT,0,none⟩ ∧ Blk w gT 155 cur ∧ q.tvs[k]? = some x ∧ cur[k * 9]? = some (.slice x.sv.A x.sv.len x.sv.cap) ∧ (∀ j,j < 8 → cur[k * 9 + (j + 1)]? = some (.int .i64 (x.slots.getD j 0 : Int))) ∧ gT ≠ gN ∧ gT ≠ gU ∧ B ≤ gT ∧
      x.sv.stack.length = x.sv.len ∧ M.th q.cf k = tvT x ∧ k * 9 + 9 ≤ cur.length:=by
  obtain ⟨gT,cur,hA,hb,hs,ht,hB,hn,hm,hl⟩:=h.row.blk (by omega)
  have hkl : k < q.tvs.length:=by omega
  have hx:=List.getElem?_eq_getElem hkl
  have hne:=h.ne gT (by rw [hA];rfl)
  have ho:=h.fam.own k _ (by rw [List.getElem?_map,hx];rfl)
  have hc : ∀ j,j < 9 → cur[k * 9 + j]? = some (tvV q.tvs[k] j):=fun j hj => by
    have h1:=lZ 9 tvV q.tvs k j _ hx hj
    rw [← ht,List.getElem?_take] at h1
    split at h1
    · exact h1
    · cases h1
  have hlen : k * 9 + 9 ≤ cur.length:=by rw [hs];omega
  exact ⟨gT,cur,_,hA,hb,hx,hc 0 (by omega),fun j hj => hc (j + 1) (by omega),hne.1,hne.2,hB,ho.len_is.1,Pc.th_of hx,hlen⟩
end Go.Proofs.Ytcbfghcdbmlneaa
