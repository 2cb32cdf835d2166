/- ProgP5, ProgP, ProgLaw1, ProgLaw2, SmallPg, GraphRef1, ProgOrd, GraphOrd, SetMath, SetRef1, SetRef2, GraphAfter, GraphRef2, GraphRef3. -/
import Derived.Test.YtfiafbflhglpeaaDoorProgP3
import Derived.Test.YtfiafbflhglpeaaDoorProgP4
import Derived.Test.YtfiafbflhglpeaaDoorPk1
import Derived.Test.YtfiafbflhglpeaaDoorProgRef5
import Derived.BigQuiet
import Derived.WalkKit
import Derived.Test.YtfiafbflhglpeaaDoorRows
import Derived.Deep.QuietTactic
import Derived.Deep.RegionWith
namespace Go.Proofs.YtfiafbflhglpeaaDoor
open Go.RowKit
set_option maxRecDepth 1000000 in
set_option maxHeartbeats 8000000 in
theorem zV (B : Nat) (p : Pg) (w : World) (hp : p.Ok w B) (hB : B ≤ w.heap.size) (hco : Q.Counts p) (hfine : ∀ j,j < p.fns.length → ¬ Q.badFn p j) (a b : Int) (c : Nat) (hc : Q.check p = (a,b,c)) :
    Calls Tryd.prog 48 #[pgA p] w fun e w' => e = .returned (.tuple #[.int .i64 a,.int .i64 b,.int .i64 (c : Int)]) ∧ Below w.heap.size w w':=by
  have HP:=kp hp;have HC:=kp hc;have HCo:=kp hco;have HFine:=kp hfine
  have HFit:=kp (zG hfine)
  have hlen:=hp.row.len
  have HLen:=kp hlen
  have h16 : p.len ≤ 16:=by rw [← hlen];exact hco.f.2
  have hlc:=hp.lc;have hcm:=hp.cm
  unfold maxLen at hcm
  have hcm9 : p.cap ≤ 9223372036854775807:=by omega
  clear hp hfine hlen hcm hc hco
  rw [jN]
  go_enter Tryd.func48,Tryd.ntmps48
  go_wp2_with (first
    | ((with_reducible refine j4 rfl 24 (.tmp 0) rfl (pgC p) rfl ?_);intro g1 w1 hg1 hk1 hw1;have HK1:=kp hk1;have HW1:=kp hw1;have hs1:=hw1.size;have HP1:=kp (HP.out.below (hw1.mono hB));clear hg1 hk1 hw1)
    | ((with_reducible show Sl 10);go_must (refine j6 rfl 24 (.tmp 1) rfl g1 rfl _ (pgC p) _ HK1.out Tryd.underlying24 rfl jH ?_))
    | (go_at_call 67;go_must (refine (uN B p _ HP1.out (by omega) HFit.out h16).mono ?_);rintro e9 w2 ⟨L,rfl,hL,hent,hw2⟩;have HL:=kp hL;have HEnt:=kp hent;have HKp2:=kp (HK1.out.below hw2 HK1.out.lt);have HW2:=kp (HW1.out.trans (hw2.mono hs1));have hs2:=HW2.out.size;clear hL hent hw2)
    | ((with_reducible show Sl 5);go_must (refine j7 rfl 115 rfl (relC (List.replicate 256 false)) vI ?_);intro g3 w3 hg3 hk3 hw3;have HG3:=kp hg3;have HK3:=kp hk3;have HW3:=kp hw3;clear hg3 hk3 hw3)
    | ((with_reducible show Sn);go_must (refine j5 rfl 115 (.tmp 5) (.tmp 11) rfl g3 (relC L) rfl rfl _ _ HK3.out (by rw [q5,HL.out];exact yN) (by rw [q5,q5,HL.out,List.length_replicate]) (JA L) ?_);intro w4 hk4 hg4 _
       have HK4:=kp hk4
       have HB24:=kp (HW3.out.grown hg4 HW3.out.size (fun k hk => by cases hk;exact HG3.out))
       have HKp4:=kp (HKp2.out.below HB24.out HKp2.out.lt)
       obtain ⟨hc0,hc1,hc2,hc3⟩:=j8 HKp4.out
       have HW4:=kp (HW2.out.trans (HB24.out.mono hs2))
       have hs4:=HW4.out.size
       clear hk4 hg4))
  clear hc0 hc1 hc2 hc3
  have HP4:=kp (HP.out.below (HW4.out.mono hB))
  have hB4 : B ≤ w4.heap.size:=by omega
  go_loopw [15] (fun v15 wr => ∃ f : Nat,f ≤ p.len ∧ v15 = .int .i64 f ∧ (∀ j,j < f → ¬ Q.badRound p j) ∧ Below w4.heap.size w4 wr) (fun v15 _ => p.len - (intOf v15).toNat)
  case atStart => exact ⟨0,by omega,rfl,fun j hj => by omega,Below.refl _ _⟩
  case round =>
    obtain ⟨f,hf,rfl,hpre,hbl⟩:=hrel
    have HPre:=kp hpre;have HBL:=kp hbl
    have HPr:=kp (HP4.out.below (hbl.mono hB4))
    clear hpre hbl
    by_cases hlt : f < p.len
    · obtain ⟨ad,fn,e1,hab0,hx,hok0,hcf⟩:=HPr.out.fn hlt
      rw [e1]
      have HE1:=kp e1
      clear e1
      have HX:=kp hx
      obtain ⟨hf0,hf64,hmays⟩:=Q.fine_fn hx (HFine.out f (by rw [HLen.out];exact hlt))
      have hfl:=hok0.nodes.1.len
      have hfc:=hok0.lc;have hfm:=hok0.cm
      unfold maxLen at hfm
      have hfm9 : fn.cap ≤ 9223372036854775807:=by omega
      rw [hfl] at hf64
      have HMays:=kp hmays
      have HFl:=kp hfl
      clear hx hok0 hfm hf0 hmays hfl
      go_wp2
      clear hcf
      go_loopw [22] (fun v22 wq => ∃ i : Nat,i ≤ fn.len ∧ v22 = .int .i64 i ∧ (∀ j,j < i → ¬ Q.roundAt p f j) ∧ Below w4.heap.size w4 wq) (fun v22 _ => fn.len - (intOf v22).toNat)
      case atStart => exact ⟨0,by omega,rfl,fun j hj => by omega,HBL.out⟩
      case round =>
        clear HBL HPr
        obtain ⟨i,hi,rfl,hpre,hbl⟩:=hrel
        have HPreI:=kp hpre;have HBL:=kp hbl
        have hszq:=hbl.size
        obtain ⟨ad',fn',e1',hab,hx',hok,_⟩:=(HP4.out.below (hbl.mono hB4)).fn hlt
        rw [HE1.out] at e1'
        cases e1'
        rw [HX.out] at hx'
        cases hx'
        have HK:=kp (HK4.out.below hbl HK4.out.lt)
        clear hpre hbl
        by_cases hli : i < fn.len
        · obtain ⟨bd,x,e3,hbb,hy,hxok,hn0,hn1,hn2,hn3⟩:=hok.nodes.get hli
          rw [e3]
          have HY:=kp hy
          clear hok hy hxok e3
          by_cases h7 : x.kind = 7
          · have hz7 : (x.kind == 7) = true:=by simpa using h7
            obtain ⟨ha0,han⟩:=yR (HMays.out i x HY.out) h7
            obtain ⟨k,hk⟩ : ∃ k : Nat,x.arg = (k : Int):=⟨x.arg.toNat,by omega⟩
            have hkn : k < p.len:=by omega
            have hk16 : k < 16:=by omega
            have hf16 : f < 16:=by omega
            obtain ⟨v,hv,hev⟩:=Q.ent_at HL.out hk16 hf16
            have HV:=kp hv
            have HRd : Kept (Q.roundAt p f i ↔ v = true):=kp <| by
              rw [← hev,HEnt.out k f hk16 hf16]
              unfold Q.roundAt
              have hcall : Q.calls p f k:=⟨fn,HX.out,x,List.mem_of_getElem? HY.out,h7,hk⟩
              constructor
              · rintro ⟨fn2,nd,g1',g2',_,k2,g4,g5,g6⟩
                rw [HX.out] at g1'
                cases g1'
                rw [HY.out] at g2'
                cases g2'
                have : k2 = k:=by omega
                subst this
                rcases g6 with g6 | g6
                · subst g6
                  exact .one hcall
                · rw [HLen.out] at g6
                  exact Q.reach_more h16 g6
              · intro h
                refine ⟨fn,x,HX.out,HY.out,h7,k,hk,by rw [HLen.out];exact hkn,.inr ?_⟩
                rw [HLen.out]
                exact Q.reach_less (Q.calls_lt HFit.out) h
            have HKx:=kp hk
            have hfi : (f : Int) < (16 : Int):=by omega
            have hki : (k : Int) < (16 : Int):=by omega
            have hf0 : (0 : Int) ≤ (f : Int):=by omega
            have hk0 : (0 : Int) ≤ (k : Int):=by omega
            clear h7 ha0 han hk hv hev
            cases v
            · have HNx : Kept (∀ j,j < i + 1 → ¬ Q.roundAt p f j):=kp fun j hj h => by
                by_cases e : j = i
                · subst e
                  have:=HRd.out.1 h
                  cases this
                · exact HPreI.out j (by omega) h
              go_wp2_with (first
                | ((with_reducible show Sl 9);go_must (refine j7 rfl 41 rfl (ndC ⟨0,0,0,0⟩) jI ?_);intro g5 w6 hg5 hk6 hw6;have HG5:=kp hg5;have HK6:=kp hk6;have HW6:=kp hw6;clear hg5 hk6 hw6)
                | ((with_reducible show Sn);go_must (refine j5 rfl 41 (.tmp 9) (.tmp 26) rfl g5 (ndC x) rfl rfl _ _ HK6.out jF rfl (jK x) ?_);intro w7 hk7 hg7 hs7
                   obtain ⟨hx0,hx1,hx2,hx3⟩:=jC hk7
                   have HBq7:=kp (HW6.out.grown hg7 HW6.out.size (fun k hk => by cases hk;exact HG5.out))
                   have HB7:=kp (HBL.out.trans (HBq7.out.mono hszq))
                   have hcv:=((HK.out.below HBq7.out HK.out.lt).cell (k * 16 + f)).trans (lJ HV.out)
                   rw [HKx.out] at hx1
                   clear hk7 hg7 hs7 hn0 hn1 hn2 hn3))
              go_roundw
              case rel => exact ⟨i + 1,by omega,by go_num,HNx.out,HB7.out⟩
              case measure => simp [intOf];omega
            · have HE:=kp (l9 HC.out (Q.check_round HCo.out HFine.out (HRd.out.2 rfl) (by omega) (by rw [HLen.out];exact hlt) HPre.out HPreI.out))
              go_wp2_with (first
                | ((with_reducible show Sl 9);go_must (refine j7 rfl 41 rfl (ndC ⟨0,0,0,0⟩) jI ?_);intro g5 w6 hg5 hk6 hw6;have HG5:=kp hg5;have HK6:=kp hk6;have HW6:=kp hw6;clear hg5 hk6 hw6)
                | ((with_reducible show Sn);go_must (refine j5 rfl 41 (.tmp 9) (.tmp 26) rfl g5 (ndC x) rfl rfl _ _ HK6.out jF rfl (jK x) ?_);intro w7 hk7 hg7 hs7
                   obtain ⟨hx0,hx1,hx2,hx3⟩:=jC hk7
                   have HBq7:=kp (HW6.out.grown hg7 HW6.out.size (fun k hk => by cases hk;exact HG5.out))
                   have HB7:=kp (HBL.out.trans (HBq7.out.mono hszq))
                   have hcv:=((HK.out.below HBq7.out HK.out.lt).cell (k * 16 + f)).trans (lJ HV.out)
                   rw [HKx.out] at hx1
                   clear hk7 hg7 hs7 hn0 hn1 hn2 hn3))
              go_ret3
              exact ⟨HE.out,HW4.out.trans (HB7.out.mono hs4)⟩
          · have hz7 : (x.kind == 7) = false:=by simpa using h7
            have HNx : Kept (∀ j,j < i + 1 → ¬ Q.roundAt p f j):=kp fun j hj h => by
              by_cases e : j = i
              · subst e
                obtain ⟨fn2,nd,g1',g2',g3,_⟩:=h
                rw [HX.out] at g1'
                cases g1'
                rw [HY.out] at g2'
                cases g2'
                exact h7 g3
              · exact HPreI.out j (by omega) h
            clear h7
            go_wp2_with (first
              | ((with_reducible show Sl 9);go_must (refine j7 rfl 41 rfl (ndC ⟨0,0,0,0⟩) jI ?_);intro g5 w6 hg5 hk6 hw6;have HG5:=kp hg5;have HK6:=kp hk6;have HW6:=kp hw6;clear hg5 hk6 hw6)
              | ((with_reducible show Sn);go_must (refine j5 rfl 41 (.tmp 9) (.tmp 26) rfl g5 (ndC x) rfl rfl _ _ HK6.out jF rfl (jK x) ?_);intro w7 hk7 hg7 hs7
                 obtain ⟨hx0,hx1,hx2,hx3⟩:=jC hk7
                 have HBq7:=kp (HW6.out.grown hg7 HW6.out.size (fun k hk => by cases hk;exact HG5.out))
                 have HB7:=kp (HBL.out.trans (HBq7.out.mono hszq))
                 clear hk7 hg7 hs7 hn0 hn1 hn2 hn3))
            go_roundw
            case rel => exact ⟨i + 1,by omega,by go_num,HNx.out,HB7.out⟩
            case measure => simp [intOf];omega
        · have HNx : Kept (∀ j,j < f + 1 → ¬ Q.badRound p j):=kp fun j hj h => by
            by_cases e : j = f
            · subst e
              obtain ⟨i2,h2⟩:=h
              by_cases hlt2 : i2 < i
              · exact HPreI.out i2 hlt2 h2
              · obtain ⟨fn2,nd,g1',g2',_⟩:=h2
                rw [HX.out] at g1'
                cases g1'
                have:=(List.getElem?_eq_some_iff.1 g2').1
                rw [HFl.out] at this
                omega
            · exact HPre.out j (by omega) h
          have hge : fn.len ≤ i:=by omega
          clear hli hok
          go_wp2
          go_roundw
          case rel => exact ⟨f + 1,by omega,by go_num,HNx.out,HBL.out⟩
          case measure => simp [intOf];omega
    · have HE:=kp (l9 HC.out (Q.check_fine HCo.out HFine.out fun j hj => HPre.out j (by rw [HLen.out] at hj;omega)))
      have hge : p.len ≤ f:=by omega
      clear hlt
      go_wp2
      go_ret3
      exact ⟨HE.out,HW4.out.trans (HBL.out.mono hs4)⟩
theorem counts_of {p : Pg} (hlen : p.fns.length = p.len) (h : countsFault p = 0) : Q.Counts p:=by
  unfold countsFault at h
  split at h
  · cases h
  · split at h
    · cases h
    · exact ⟨by omega,by omega,by omega,by omega⟩
theorem uT {p : Pg} (hlen : p.fns.length = p.len) (h : countsFault p ≠ 0) : Q.check p = (-1,-1,countsFault p) ∧ (countsFault p = 1 ∨ countsFault p = 4):=by
  unfold countsFault Q.check at *
  rw [hlen]
  split
  · simp
  · split
    · simp
    · rename_i h1 h2
      rw [if_neg h1,if_neg h2] at h
      exact absurd rfl h
set_option maxRecDepth 1000000 in
set_option maxHeartbeats 8000000 in
theorem qE (B : Nat) (p : Pg) (w : World) (hp : p.Ok w B) (hB : B ≤ w.heap.size) (a b : Int) (c : Nat) (hc : Q.check p = (a,b,c)) :
    Calls Tryd.prog 29 #[pgA p] w fun e w' => e = .returned (.tuple #[.int .i64 a,.int .i64 b,.int .i64 (c : Int)]) ∧ Below w.heap.size w w':=by
  have HP:=kp hp;have HC:=kp hc
  have hlen:=hp.row.len
  have HLen:=kp hlen
  have hlc:=hp.lc;have hcm:=hp.cm
  unfold maxLen at hcm
  have hcm9 : p.cap ≤ 9223372036854775807:=by omega
  obtain ⟨q,hq⟩ : ∃ q,countsFault p = q:=⟨_,rfl⟩
  have HQ:=kp hq
  clear hp hcm hc
  rw [jN]
  by_cases hq0 : q = 0
  · subst hq0
    have HCo:=kp (counts_of hlen hq)
    clear hlen hq
    go_enter Tryd.func29,Tryd.ntmps29
    go_wp2_with (first
      | ((with_reducible refine j4 rfl 24 (.tmp 0) rfl (pgC p) rfl ?_);intro g1 w1 hg1 hk1 hw1;have HK1:=kp hk1;have HW1:=kp hw1;have hs1:=hw1.size;have HP1:=kp (HP.out.below (hw1.mono hB));clear hg1 hk1 hw1)
      | ((with_reducible show Sl 10);go_must (refine j6 rfl 24 (.tmp 1) rfl g1 rfl _ (pgC p) _ HK1.out Tryd.underlying24 rfl jH ?_))
      | (go_at_call 46;go_must (refine (qQ p _ HQ.out _).mono ?_);rintro e9 w2 ⟨rfl,hw2⟩;have HKp2:=kp (HK1.out.below hw2 HK1.out.lt);obtain ⟨hc0,hc1,hc2,hc3⟩:=j8 HKp2.out;have HW2:=kp (HW1.out.trans (hw2.mono hs1));have hs2:=HW2.out.size;clear hw2))
    clear hc0 hc1 hc2 hc3
    have HP2:=kp (HP.out.below (HW2.out.mono hB))
    have hB2 : B ≤ w2.heap.size:=by omega
    go_loopw [18] (fun v18 wr => ∃ f : Nat,f ≤ p.len ∧ v18 = .int .i64 f ∧ (∀ j,j < f → ¬ Q.badFn p j) ∧ Below w2.heap.size w2 wr) (fun v18 _ => p.len - (intOf v18).toNat)
    case atStart => exact ⟨0,by omega,rfl,fun j hj => by omega,Below.refl _ _⟩
    case round =>
      obtain ⟨f,hf,rfl,hpre,hbl⟩:=hrel
      have HPre:=kp hpre;have HBL:=kp hbl
      have hszr:=hbl.size
      have HPr:=kp (HP2.out.below (hbl.mono hB2))
      have HKr:=kp (HKp2.out.below hbl HKp2.out.lt)
      have hBr : B ≤ wr.heap.size:=by omega
      clear hpre hbl
      by_cases hlt : f < p.len
      · obtain ⟨ad,fn,e1,hab0,hx,hok0,hcf⟩:=HPr.out.fn hlt
        rw [e1]
        have HX:=kp hx;have HOk:=kp hok0
        obtain ⟨a',c',hfa⟩ : ∃ a' c',Q.fnFault p fn = (a',c'):=⟨_,_,rfl⟩
        have HFa:=kp hfa
        clear hx hok0 e1 hfa
        by_cases hz : c' = 0
        · subst hz
          have HNx : Kept (∀ j,j < f + 1 → ¬ Q.badFn p j):=kp fun j hj h => by
            by_cases e : j = f
            · subst e
              obtain ⟨fn2,h1,h2⟩:=h
              rw [HX.out] at h1
              cases h1
              rw [HFa.out] at h2
              exact h2 rfl
            · exact HPre.out j (by omega) h
          go_wp2_with (first
            | ((with_reducible show Sl 24);go_must (refine j6 rfl 24 (.tmp 1) rfl g1 rfl _ (pgC p) _ HKr.out Tryd.underlying24 rfl jH ?_))
            | (go_at_call 47;go_must (refine (xK B p fn _ _ HFa.out _ HPr.out HOk.out hBr).mono ?_);rintro e9 w9 ⟨rfl,hw9⟩;have HB9:=kp (HBL.out.trans (hw9.mono hszr));clear hw9))
          go_roundw
          case rel => exact ⟨f + 1,by omega,by go_num,HNx.out,HB9.out⟩
          case measure => simp [intOf];omega
        · have hzb : ((c' : Int) != 0) = true:=by rw [bne_iff_ne];omega
          have HE:=kp (l9 HC.out (Q.check_fn HCo.out HX.out (by rw [HFa.out];exact hz) HPre.out))
          rw [HFa.out] at HE
          clear hz
          go_wp2_with (first
            | ((with_reducible show Sl 24);go_must (refine j6 rfl 24 (.tmp 1) rfl g1 rfl _ (pgC p) _ HKr.out Tryd.underlying24 rfl jH ?_))
            | (go_at_call 47;go_must (refine (xK B p fn _ _ HFa.out _ HPr.out HOk.out hBr).mono ?_);rintro e9 w9 ⟨rfl,hw9⟩;have HB9:=kp (HBL.out.trans (hw9.mono hszr));clear hw9))
          go_ret3
          exact ⟨HE.out,HW2.out.trans (HB9.out.mono hs2)⟩
      · have HFine : Kept (∀ j,j < p.fns.length → ¬ Q.badFn p j):=kp fun j hj => HPre.out j (by rw [HLen.out] at hj;omega)
        have hge : p.len ≤ f:=by omega
        clear hlt
        go_wp2_with (first
          | ((with_reducible show Sl 35);go_must (refine j6 rfl 24 (.tmp 1) rfl g1 rfl _ (pgC p) _ HKr.out Tryd.underlying24 rfl jH ?_))
          | (go_at_call 48;go_must (refine (zV B p _ HPr.out hBr HCo.out HFine.out a b c HC.out).mono ?_);rintro e9 w9 ⟨rfl,hw9⟩;have HB9:=kp (HBL.out.trans (hw9.mono hszr));clear hw9))
        go_ret3
        exact ⟨rfl,HW2.out.trans (HB9.out.mono hs2)⟩
  · obtain ⟨hck,hor⟩:=uT hlen (by rw [hq];exact hq0)
    rw [hq] at hck hor
    have HE:=kp (l9 HC.out hck)
    have hqb : ((q : Int) != 0) = true:=by rw [bne_iff_ne];omega
    clear hck hq hlen hq0 hor
    go_enter Tryd.func29,Tryd.ntmps29
    go_wp2_with (first
      | ((with_reducible refine j4 rfl 24 (.tmp 0) rfl (pgC p) rfl ?_);intro g1 w1 hg1 hk1 hw1;have HK1:=kp hk1;have HW1:=kp hw1;have hs1:=hw1.size;clear hg1 hk1 hw1)
      | ((with_reducible show Sl 10);go_must (refine j6 rfl 24 (.tmp 1) rfl g1 rfl _ (pgC p) _ HK1.out Tryd.underlying24 rfl jH ?_))
      | (go_at_call 46;go_must (refine (qQ p _ HQ.out _).mono ?_);rintro e9 w2 ⟨rfl,hw2⟩;have HW2:=kp (HW1.out.trans (hw2.mono hs1));clear hw2))
    go_ret3
    exact ⟨HE.out,HW2.out⟩
theorem vL (B : Nat) (p : Pg) (w : World) (hp : p.Ok w B) (hB : B ≤ w.heap.size) (_hs : Q.small p = true) (a b : Int) (c : Nat) (hc : Q.check p = (a,b,c)) :
    Calls Tryd.prog 29 #[pgA p] w fun e w' => e = .returned (.tuple #[.int .i64 a,.int .i64 b,.int .i64 (c : Int)]) ∧ Below w.heap.size w w':=qE B p w hp hB a b c hc
theorem xG {P : Nat → Prop} : ∀ {n : Nat},Q.firstIdx P n = none → ∀ j,j < n → ¬ P j
  | 0,_,j,hj => by omega
  | n + 1,h,j,hj => by
    simp only [Q.firstIdx] at h
    cases hf : Q.firstIdx P n with
    | some k => rw [hf] at h;cases h
    | none =>
      rw [hf] at h
      simp only at h
      split at h
      · cases h
      · rename_i hp
        by_cases hjn : j = n
        · subst hjn;exact hp
        · exact xG hf j (by omega)
theorem zR {P : Nat → Prop} : ∀ {n i : Nat},Q.firstIdx P n = some i → i < n ∧ P i
  | 0,i,h => by cases h
  | n + 1,i,h => by
    simp only [Q.firstIdx] at h
    cases hf : Q.firstIdx P n with
    | some k =>
      rw [hf] at h
      cases h
      obtain ⟨h1,h2⟩:=zR hf
      exact ⟨by omega,h2⟩
    | none =>
      rw [hf] at h
      simp only at h
      split at h
      · rename_i hp
        cases h
        exact ⟨by omega,hp⟩
      · cases h
structure Fine (p : Pg) : Prop where
  counts : Q.Counts p
  nodes : ∀ j,j < p.fns.length → ¬ Q.badFn p j
  round : ∀ j,j < p.fns.length → ¬ Q.badRound p j
theorem xH {p : Pg} {a b : Int} (h : Q.check p = (a,b,0)) : Fine p:=by
  unfold Q.check at h
  split at h
  · cases h
  · split at h
    · cases h
    · rename_i h1 h2
      split at h
      · rename_i f hf
        exfalso
        obtain ⟨hlt,fn,hfn,hb⟩:=zR hf
        have e : p.fns.getD f default = fn:=by rw [List.getD_eq_getElem?_getD,hfn];rfl
        rw [e] at h
        have:=congrArg (fun x : Int × Int × Nat => x.2.2) h
        exact hb this
      · rename_i hf
        split at h
        · cases h
        · rename_i hr
          exact ⟨⟨by omega,by omega,by omega,by omega⟩,xG hf,xG hr⟩
def more (p : Pg) (g l s : Int) : Pg:={ p with g:=g,l:=l,s:=s }
theorem nodes_is {w : World} {g : Nat} {t : TypeId} {l : List Nd} (h : Blk w g t (l.flatMap ndC)) (hok : ∀ x ∈ l,x.Ok) : Nodes w w.heap.size (some ⟨g,0,none⟩) l.length l:=by
  refine ⟨⟨rfl,fun _ => ⟨_,rfl,h.lt,fun k y hy j hj => ?_⟩⟩,hok⟩
  have hadd : (⟨g,0,none⟩ : Addr).add (k * 4 + j) = ⟨g,k * 4 + j,none⟩:=lQ _ _
  rw [hadd,h.cell]
  have key : ∀ (l : List Nd) (k : Nat) (y : Nd),l[k]? = some y → (l.flatMap ndC)[k * 4 + j]? = some (ndV y j):=by
    intro l
    induction l with
    | nil => intro k y h;simp at h
    | cons x r ih =>
      intro k y h
      rw [List.flatMap_cons]
      cases k with
      | zero =>
        simp at h
        subst h
        rw [Nat.zero_mul,Nat.zero_add,List.getElem?_append_left (by simp [ndC];exact hj)]
        match j,hj with
        | 0,_ => rfl
        | 1,_ => rfl
        | 2,_ => rfl
        | 3,_ => rfl
      | succ k =>
        rw [List.getElem?_append_right (by simp [ndC];omega),show (k + 1) * 4 + j - (ndC x).length = k * 4 + j by simp [ndC];omega]
        exact ih k y (by simpa using h)
  exact key l k y hy
def tinyNd (x : Nd) : Bool:=decide (0 ≤ x.kind) && decide (x.kind ≤ 100) && decide (0 ≤ x.arg) && decide (x.arg ≤ 100) && decide (0 ≤ x.next) && decide (x.next ≤ 100) && decide (0 ≤ x.alt) && decide (x.alt ≤ 100)
theorem nd_tiny {x : Nd} (h : tinyNd x = true) : x.Ok:=by
  unfold tinyNd at h
  simp only [Bool.and_eq_true,decide_eq_true_eq] at h
  exact ⟨by unfold I64;omega,by unfold I64;omega,by unfold I64;omega,by unfold I64;omega⟩
theorem QS {w : World} {g : Nat} {t : TypeId} {l : List Nd} (h : Blk w g t (l.flatMap ndC)) (hok : l.all tinyNd = true) (n : Nat) (hn : l.length = n) (hm : n ≤ 1000) : (⟨some ⟨g,0,none⟩,n,n,l⟩ : Fn).Ok w w.heap.size:=by
  subst hn
  exact ⟨nodes_is h fun x hx => nd_tiny (List.all_eq_true.1 hok x hx),Nat.le_refl _,(by unfold maxLen;show l.length ≤ 2 ^ 63 - 1;omega),fun h => by cases h⟩
theorem check_up {p : Pg} (hc : Q.Counts p) (hn : ∀ fn ∈ p.fns,fn.nodes.length ≠ 0 ∧ fn.nodes.length ≤ 64 ∧ fn.nodes.all (fun nd => Q.may p.g p.l p.s p.len nd fn.nodes.length) = true)
    (hup : ∀ x y,Q.calls p x y → x < y) : Q.check p = (0,0,0):=by
  refine Q.check_fine hc ?_ ?_
  · rintro j _ ⟨fn,hfn,hb⟩
    obtain ⟨h1,h2,h3⟩:=hn fn (List.mem_of_getElem? hfn)
    refine hb ?_
    rw [Q.fault_none _ _ h1 h2]
    rintro i _ ⟨nd,hnd,hm⟩
    have h4:=List.all_eq_true.1 h3 nd (List.mem_of_getElem? hnd)
    rw [hm] at h4
    cases h4
  · rintro j _ ⟨i,fn,nd,hfn,hnd,h7,k,hk,hlt,hor⟩
    have hjk:=hup j k ⟨fn,hfn,nd,List.mem_of_getElem? hnd,h7,hk⟩
    have key : ∀ x y,Q.Reach (Q.calls p) p.fns.length x y → x < y:=by
      intro x y h
      induction h with
      | one h => exact hup _ _ h
      | more h _ _ ih => exact Nat.lt_trans (hup _ _ h) ih
    rcases hor with h | h
    · omega
    · have:=key _ _ h;omega
def callsUp : Nat → List Fn → Bool
  | _,[] => true
  | k,fn :: r => fn.nodes.all (fun nd => decide (nd.kind ≠ 7) || decide ((k : Int) < nd.arg)) && callsUp (k + 1) r
theorem JW : ∀ (l : List Fn) (k : Nat),callsUp k l = true → ∀ (f : Nat) (fn : Fn) (nd : Nd),l[f]? = some fn → nd ∈ fn.nodes → nd.kind = 7 → ((k + f : Nat) : Int) < nd.arg
  | [],k,_,f,fn,nd,h,_,_ => by simp at h
  | x :: r,k,hu,f,fn,nd,h,hnd,h7 => by
    unfold callsUp at hu
    rw [Bool.and_eq_true] at hu
    cases f with
    | zero =>
      simp at h
      subst h
      have h1:=List.all_eq_true.1 hu.1 nd hnd
      simp [h7] at h1
      omega
    | succ f =>
      have h1:=JW r (k + 1) hu.2 f fn nd (by simpa using h) hnd h7
      omega
theorem YA {p : Pg} (h : callsUp 0 p.fns = true) : ∀ x y,Q.calls p x y → x < y:=by
  rintro x y ⟨fn,hfn,nd,hnd,h7,ha⟩
  have:=JW p.fns 0 h x fn nd hfn hnd h7
  omega
def names (kind : Int) (id : Nat) (nd : Nd) : Bool:=decide (nd.kind = kind) && decide (nd.arg = (id : Int))
def namedTo (l : List Nd) (kind : Int) (m : Nat) : List Nat:=(List.range m).filter fun id => l.any (names kind id)
def namedL (l : List Nd) (kind : Int) : List Nat:=namedTo l kind 32
theorem yQ (l : List Nd) (kind : Int) (m : Nat) : namedTo l kind (m + 1) = namedTo l kind m ++ (if l.any (names kind m) then [m] else []):=by
  unfold namedTo
  rw [List.range_succ,List.filter_append]
  by_cases h : l.any (names kind m) <;> simp [h]
theorem zN (l : List Nd) (kind : Int) (m : Nat) : (namedTo l kind m).length ≤ m:=by
  have:=List.length_filter_le (fun id => l.any (names kind id)) (List.range m)
  simpa [namedTo] using this
theorem any_snoc (l : List Nd) (f : Nd → Bool) (i : Nat) (x : Nd) (h : l[i]? = some x) : (l.take (i + 1)).any f = ((l.take i).any f || f x):=by
  rw [List.take_add_one,h,List.any_append];simp
theorem uB {l : List Nd} {kind : Int} {y : Nat} : y ∈ namedL l kind ↔ y < 32 ∧ ∃ nd ∈ l,nd.kind = kind ∧ nd.arg = (y : Int):=by
  unfold namedL namedTo names
  simp [List.mem_filter,List.any_eq_true]
set_option maxRecDepth 100000 in
set_option maxHeartbeats 1600000 in
theorem XB (B : Nat) (A : Option Addr) (n c : Nat) (l : List Nd) (kind : Int) (w : World) (hr : Nodes w B A n l) (hn : n ≤ 1000000) (hB : B ≤ w.heap.size) :
    Calls Tryd.prog 45 #[.slice A n c,.int .i64 kind] w fun e w' => ∃ v,e = .returned v ∧ Own w' w.heap.size 3 v ((namedL l kind).map natV) ∧ Below w.heap.size w w':=by
  have HR:=kp hr
  have HLn:=kp hr.1.len
  clear hr
  go_enter Tryd.func45,Tryd.ntmps45
  go_wp2
  go_loopw [5,6] (fun v5 v6 wr => ∃ m : Nat,m ≤ 32 ∧ v6 = .int .i64 m ∧ Own wr w.heap.size 3 v5 ((namedTo l kind m).map natV) ∧ Below w.heap.size w wr) (fun _ v6 _ => 32 - (intOf v6).toNat)
  case atStart => exact ⟨0,by omega,rfl,Own.nil _ _ _,Below.refl _ _⟩
  case round =>
    obtain ⟨m,hm,rfl,hown,hbw⟩:=hrel
    have HOwn:=kp hown;have HBw:=kp hbw
    have HRw : Kept (Nodes wr B A n l):=kp (HR.out.keep fun p hp => hbw.cell (by omega))
    have hsz:=hbw.size
    have hml:=zN l kind m
    clear hown hbw
    by_cases hlt : m < 32
    · go_wp2
      go_loop [7,8] (fun v7 v8 => ∃ (i : Nat) (b : Bool),i ≤ n ∧ v8 = .int .i64 i ∧ v7 = .bool b ∧ b = (l.take i).any (names kind m)) (fun _ v8 => n - (intOf v8).toNat)
      case atStart => exact ⟨0,false,by omega,rfl,rfl,by simp⟩
      case round =>
        obtain ⟨i,b,hi,rfl,rfl,hany⟩:=hrel
        have HAny:=kp hany
        clear hany
        by_cases hlti : i < n
        · obtain ⟨ad,nd,rfl,_,hnd,_,he0,he1,_,_⟩:=HRw.out.get hlti
          have HN : Kept ((l.take (i + 1)).any (names kind m) = (b || names kind m nd)):=kp (by rw [any_snoc l _ i nd hnd,HAny.out])
          by_cases hk : nd.kind = kind
          · have hkb : (nd.kind == kind) = true:=by simpa using hk
            by_cases ha : nd.arg = (m : Int)
            · have hab : (nd.arg == (m : Int)) = true:=by simpa using ha
              have HNm : Kept (names kind m nd = true):=kp (by unfold names;rw [decide_eq_true hk,decide_eq_true ha];rfl)
              clear hnd hk ha
              cases b
              · go_wp2
                go_round
                case rel => exact ⟨i + 1,true,by omega,by go_num,rfl,by rw [HN.out,HNm.out];rfl⟩
                case measure => simp [intOf];omega
              · go_wp2
                go_round
                case rel => exact ⟨i + 1,true,by omega,by go_num,rfl,by rw [HN.out];rfl⟩
                case measure => simp [intOf];omega
            · have hab : (nd.arg == (m : Int)) = false:=by simpa using ha
              have HNm : Kept (names kind m nd = false):=kp (by unfold names;rw [decide_eq_false ha,Bool.and_false])
              clear hnd hk ha
              cases b
              · go_wp2
                go_round
                case rel => exact ⟨i + 1,false,by omega,by go_num,rfl,by rw [HN.out,HNm.out];rfl⟩
                case measure => simp [intOf];omega
              · go_wp2
                go_round
                case rel => exact ⟨i + 1,true,by omega,by go_num,rfl,by rw [HN.out];rfl⟩
                case measure => simp [intOf];omega
          · have hkb : (nd.kind == kind) = false:=by simpa using hk
            have HNm : Kept (names kind m nd = false):=kp (by unfold names;rw [decide_eq_false hk,Bool.false_and])
            clear hnd hk
            cases b
            · go_wp2
              go_round
              case rel => exact ⟨i + 1,false,by omega,by go_num,rfl,by rw [HN.out,HNm.out];rfl⟩
              case measure => simp [intOf];omega
            · go_wp2
              go_round
              case rel => exact ⟨i + 1,true,by omega,by go_num,rfl,by rw [HN.out];rfl⟩
              case measure => simp [intOf];omega
        · have HE : Kept (b = l.any (names kind m)):=kp (by rw [HAny.out,List.take_of_length_le (by rw [HLn.out];omega)])
          have hgei : n ≤ i:=by omega
          clear hlti
          cases b
          · have HN : Kept (namedTo l kind (m + 1) = namedTo l kind m):=kp (by rw [yQ,if_neg (by rw [← HE.out];decide),List.append_nil])
            go_wp2
            go_roundw
            case rel => exact ⟨m + 1,by omega,by go_num,by rw [HN.out];exact HOwn.out,HBw.out⟩
            case measure => simp [intOf];omega
          · have HN : Kept (namedTo l kind (m + 1) = namedTo l kind m ++ [m]):=kp (by rw [yQ,if_pos (by rw [← HE.out])])
            go_wp2_with (at_builtin;go_must (refine jJ rfl (.tmp 39) (.tmp 41) 36 rfl w.heap.size 3 _ _ Tryd.underlying36 lD rfl _ _ _ _ rfl HOwn.out _ 1 rfl rfl rfl (by simp [maxLen];omega) (by simp;omega) hsz ?_);intro v1 w5 hown1 hg1;have HO5:=kp hown1;clear hown1;have HG5:=kp hg1;clear hg1)
            go_roundw
            case rel => exact ⟨m + 1,by omega,by go_num,by rw [HN.out,List.map_append];exact HO5.out,HG5.out.below HBw.out HOwn.out hsz⟩
            case measure => simp [intOf];omega
    · have hme : m = 32:=by omega
      have HE : Kept (namedTo l kind m = namedL l kind):=kp (by rw [hme];rfl)
      have hge : 32 ≤ m:=by omega
      clear hlt hme
      go_wp2
      go_ret
      exact ⟨_,rfl,by rw [← HE.out];exact HOwn.out,HBw.out⟩
def cnt (P : Nat → Bool) : Nat → Nat
  | 0 => 0
  | n + 1 => cnt P n + (if P n then 1 else 0)
theorem uU (P : Nat → Bool) : ∀ n,cnt P n ≤ n
  | 0 => Nat.le_refl _
  | n + 1 => by have:=uU P n;simp only [cnt];split <;> omega
theorem cnt_mono {P P' : Nat → Bool} : ∀ n,(∀ g,g < n → P g = true → P' g = true) → cnt P n ≤ cnt P' n
  | 0,_ => Nat.le_refl _
  | n + 1,h => by
    have h1:=cnt_mono n fun g hg => h g (by omega)
    have h2:=h n (by omega)
    simp only [cnt]
    by_cases hp : P n = true
    · rw [if_pos hp,if_pos (h2 hp)];omega
    · rw [if_neg hp];omega
theorem cnt_lt {P P' : Nat → Bool} {f : Nat} : ∀ n,(∀ g,g < n → P g = true → P' g = true) → f < n → P f = false → P' f = true → cnt P n < cnt P' n
  | 0,_,hf,_,_ => by omega
  | n + 1,h,hf,h1,h2 => by
    by_cases hfn : f = n
    · subst hfn
      have h3:=cnt_mono f fun g hg => h g (by omega)
      simp only [cnt]
      rw [if_neg (by rw [h1];decide),if_pos h2];omega
    · have h3:=cnt_lt (f:=f) n (fun g hg => h g (by omega)) (by omega) h1 h2
      have h4:=h n (by omega)
      simp only [cnt]
      by_cases hp : P n = true
      · rw [if_pos hp,if_pos (h4 hp)];omega
      · rw [if_neg hp];omega
theorem vV {P : Nat → Bool} : ∀ n,cnt P n < n → ∃ g,g < n ∧ P g = false
  | 0,h => by omega
  | n + 1,h => by
    by_cases hp : P n = true
    · simp only [cnt] at h
      rw [if_pos hp] at h
      obtain ⟨g,hg,h1⟩:=vV (P:=P) n (by omega)
      exact ⟨g,by omega,h1⟩
    · exact ⟨n,by omega,by simpa using hp⟩
noncomputable def dec (P : Prop) : Bool:=@decide P (Classical.propDecidable P)
theorem JT {P : Prop} : dec P = true ↔ P:=by unfold dec;exact @decide_eq_true_iff P (Classical.propDecidable P)
theorem uF {P : Prop} : dec P = false ↔ ¬ P:=by unfold dec;exact @decide_eq_false_iff_not P (Classical.propDecidable P)
theorem xB {R : Nat → Nat → Prop} {n : Nat} (hac : ∀ x,x < n → ¬ Q.Reach R n x x) : ∀ (k : Nat) (U : Nat → Bool),cnt U n ≤ k → (∀ g,U g = true → g < n) → (∃ f,U f = true) → ∃ f,U f = true ∧ ∀ y,R f y → U y = false
  | 0,U,hk,hU,⟨f,hf⟩ => by
    exfalso
    have h1 : cnt (fun _ => false) n < cnt U n:=cnt_lt (f:=f) n (fun g _ h => by cases h) (hU f hf) rfl hf
    omega
  | k + 1,U,hk,hU,⟨f,hf⟩ => by
    by_cases hno : ∀ y,R f y → U y = false
    · exact ⟨f,hf,hno⟩
    · have hno2 : ∃ y,R f y ∧ U y = true:=by
        refine Classical.byContradiction fun h => hno fun y hy => ?_
        cases hu : U y
        · rfl
        · exact absurd ⟨y,hy,hu⟩ h
      obtain ⟨y,hy,hyu⟩:=hno2
      have hlt : cnt (fun g => U g && dec (Q.Reach R n f g)) n < cnt U n :=
        cnt_lt (f:=f) n (fun g _ h => by rw [Bool.and_eq_true] at h;exact h.1) (hU f hf) (by simp only [hf,Bool.true_and];exact uF.2 (hac f (hU f hf))) hf
      obtain ⟨g,hg,hgno⟩:=xB hac k (fun g => U g && dec (Q.Reach R n f g)) (by omega) (fun g h => hU g (by rw [Bool.and_eq_true] at h;exact h.1)) ⟨y,by simp only [hyu,Bool.true_and];exact JT.2 (.one hy)⟩
      rw [Bool.and_eq_true] at hg
      obtain ⟨hgu,hfg⟩:=hg
      refine ⟨g,hgu,fun z hz => ?_⟩
      have h1:=hgno z hz
      cases hzu : U z
      · rfl
      · simp only [hzu,Bool.true_and] at h1
        exact absurd ((JT.1 hfg).trans (hU g hgu) (.one hz)) (uF.1 h1)
structure OrdInv (R : Nat → Nat → Prop) (len : Nat) (o0 o : Nat → Bool) (f : Nat) : Prop where
  mono : ∀ g,o0 g = true → o g = true
  rest : ∀ g,f ≤ g → o g = o0 g
  done : ∀ g,g < f → (∀ y,R g y → o0 y = true) → o g = true
theorem OrdInv.start (R : Nat → Nat → Prop) (len : Nat) (o : Nat → Bool) : OrdInv R len o o 0:=⟨fun _ h => h,fun _ _ => rfl,fun g h => by omega⟩
theorem OrdInv.skip {R : Nat → Nat → Prop} {len : Nat} {o0 o : Nat → Bool} {f : Nat} (h : OrdInv R len o0 o f) (hn : ¬ (o f = false ∧ ∀ y,R f y → o y = true)) : OrdInv R len o0 o (f + 1):=by
  refine ⟨h.mono,fun g hg => h.rest g (by omega),fun g hg hc => ?_⟩
  by_cases hgf : g = f
  · subst hgf
    cases ho : o g
    · exact absurd ⟨ho,fun y hy => h.mono y (hc y hy)⟩ hn
    · rfl
  · exact h.done g (by omega) hc
theorem OrdInv.take {R : Nat → Nat → Prop} {len : Nat} {o0 o o' : Nat → Bool} {f : Nat} (h : OrdInv R len o0 o f) (h1 : o' f = true) (h2 : ∀ g,g ≠ f → o' g = o g) : OrdInv R len o0 o' (f + 1):=by
  refine ⟨fun g hg => ?_,fun g hg => ?_,fun g hg hc => ?_⟩
  · by_cases hgf : g = f
    · subst hgf;exact h1
    · rw [h2 g hgf];exact h.mono g hg
  · rw [h2 g (by omega)];exact h.rest g (by omega)
  · by_cases hgf : g = f
    · subst hgf;exact h1
    · rw [h2 g hgf];exact h.done g (by omega) hc
theorem OrdInv.gain {R : Nat → Nat → Prop} {len : Nat} {o0 o : Nat → Bool} (h : OrdInv R len o0 o len) (hac : ∀ x,x < len → ¬ Q.Reach R len x x) (hin : ∀ x y,R x y → y < len) (hlt : cnt o0 len < len) : cnt o0 len < cnt o len:=by
  obtain ⟨g,hg,hg0⟩:=vV len hlt
  obtain ⟨f,hff,hno⟩:=xB hac len (fun g => decide (g < len) && !o0 g) (uU _ _) (fun g h => by rw [Bool.and_eq_true] at h;simpa using h.1) ⟨g,by simp [hg,hg0]⟩
  rw [Bool.and_eq_true] at hff
  have hf : f < len:=by simpa using hff.1
  have hf0 : o0 f = false:=by simpa using hff.2
  refine cnt_lt (f:=f) len (fun g _ hg => h.mono g hg) hf hf0 (h.done f hf fun y hy => ?_)
  cases hy0 : o0 y
  · have h1:=hno y hy
    simp [hin f y hy,hy0] at h1
  · rfl
theorem q9 {p : Pg} (h : Fine p) (hl : p.fns.length = p.len) {x y : Nat} (hc : Q.calls p x y) : y < p.fns.length:=by
  obtain ⟨f,hf,nd,hnd,h7,ha⟩:=hc
  have:=(zG h.nodes f (List.mem_of_getElem? hf) nd hnd h7).2
  omega
theorem yW {p : Pg} (h : Fine p) (hl : p.fns.length = p.len) : ∀ x,x < p.fns.length → ¬ Q.Reach (Q.calls p) p.fns.length x x:=by
  intro x hx hr
  refine h.round x hx ?_
  have key : ∀ y,Q.calls p x y → (y = x ∨ Q.Reach (Q.calls p) p.fns.length y x) → Q.badRound p x:=by
    intro y hc hor
    have hy:=q9 h hl hc
    obtain ⟨f,hf,nd,hnd,h7,ha⟩:=hc
    obtain ⟨i,hi⟩:=List.mem_iff_getElem?.1 hnd
    exact ⟨i,f,nd,hf,hi,h7,y,ha,hy,hor⟩
  cases hr with
  | one hc => exact key x hc (.inl rfl)
  | more hc hj hr => exact key _ hc (.inr hr)
def Free (p : Pg) (out : List Nat) (f : Nat) : Prop:=f ∉ out ∧ ∀ y,Q.calls p f y → y ∈ out
def IsOrd (p : Pg) (l : List Nat) : Prop:=∀ k f,l[k]? = some f → f < p.fns.length ∧ Free p (l.take k) f ∧ ∀ g,g < f → ¬ Free p (l.take k) g
theorem ord_nil (p : Pg) : IsOrd p []:=fun k f h => by simp at h
theorem ord_snoc {p : Pg} {l : List Nat} {f : Nat} (h : IsOrd p l) (hf : f < p.fns.length) (h1 : Free p l f) (h2 : ∀ g,g < f → ¬ Free p l g) : IsOrd p (l ++ [f]):=by
  intro k x hx
  have hk:=(List.getElem?_eq_some_iff.1 hx).1
  rw [List.length_append,List.length_singleton] at hk
  by_cases hkl : k < l.length
  · rw [List.getElem?_append_left hkl] at hx
    rw [List.take_append_of_le_length (by omega)]
    exact h k x hx
  · have hke : k = l.length:=by omega
    subst hke
    rw [List.getElem?_append_right (Nat.le_refl _),Nat.sub_self] at hx
    have : x = f:=by simpa using hx.symm
    subst this
    rw [List.take_left' rfl]
    exact ⟨hf,h1,h2⟩
theorem u9 {p : Pg} {l : List Nat} (h : IsOrd p l) : l.Nodup:=by
  refine List.pairwise_iff_getElem.2 fun i j hi hj hij e => ?_
  have hy : l[j]? = some l[j]:=List.getElem?_eq_getElem hj
  refine (h j _ hy).2.1.1 ?_
  have : (l.take j)[i]? = some l[j]:=by rw [List.getElem?_take,if_pos hij,List.getElem?_eq_getElem hi,e]
  exact List.mem_of_getElem? this
theorem QU {P P' : Nat → Bool} {x : Nat} (h : ∀ g,g ≠ x → P' g = P g) : ∀ n,cnt P' n ≤ cnt P n + (if x < n then 1 else 0)
  | 0 => by simp [cnt]
  | n + 1 => by
    have ih:=QU h n
    simp only [cnt]
    by_cases hx : n = x
    · subst hx
      rw [if_neg (by omega)] at ih
      rw [if_pos (show n < n + 1 by omega)]
      split <;> split <;> omega
    · rw [h n hx]
      by_cases hxn : x < n
      · rw [if_pos hxn] at ih;rw [if_pos (show x < n + 1 by omega)];omega
      · rw [if_neg hxn] at ih;rw [if_neg (show ¬ x < n + 1 by omega)];omega
theorem QV (n : Nat) : ∀ l : List Nat,cnt (fun g => decide (g ∈ l)) n ≤ l.length
  | [] => by
    have : ∀ n,cnt (fun g => decide (g ∈ ([] : List Nat))) n = 0:=by
      intro n
      induction n with
      | zero => rfl
      | succ n ih => simp only [cnt,ih];simp
    rw [this];exact Nat.zero_le _
  | x :: l => by
    have ih:=QV n l
    have h1:=QU (P:=fun g => decide (g ∈ l)) (P':=fun g => decide (g ∈ x :: l)) (x:=x) (fun g hg => by simp [hg]) n
    rw [List.length_cons]
    split at h1 <;> omega
theorem ord_next {p : Pg} {l : List Nat} (hf : Fine p) (hlen : p.fns.length = p.len) (hlt : l.length < p.fns.length) : ∃ f,f < p.fns.length ∧ Free p l f:=by
  have hne : ∃ g,g < p.fns.length ∧ g ∉ l:=by
    obtain ⟨g,hg,hgl⟩:=vV (P:=fun g => decide (g ∈ l)) p.fns.length (by have:=QV p.fns.length l;omega)
    exact ⟨g,hg,by simpa using hgl⟩
  obtain ⟨g,hg,hgl⟩:=hne
  obtain ⟨f,hff,hno⟩:=xB (yW hf hlen) p.fns.length (fun g => decide (g < p.fns.length) && !decide (g ∈ l)) (uU _ _) (fun g h => by rw [Bool.and_eq_true] at h;simpa using h.1) ⟨g,by simp [hg,hgl]⟩
  rw [Bool.and_eq_true] at hff
  refine ⟨f,by simpa using hff.1,by simpa using hff.2,fun y hy => ?_⟩
  refine Classical.byContradiction fun hyl => ?_
  have h1:=hno y hy
  simp [q9 hf hlen hy,hyl] at h1
end Go.Proofs.YtfiafbflhglpeaaDoor
namespace Go.Proofs.YtfiafbflhglpeaaDoor.S
def has (m : Nat) (id : Int) : Bool:=decide (0 ≤ id ∧ id ≤ 31) && m.testBit id.toNat
theorem has_out (m : Nat) (id : Int) (h : id < 0 ∨ 31 < id) : has m id = false:=by
  unfold has;rw [decide_eq_false (by omega)];rfl
theorem has_in (m : Nat) (i : Nat) (h : i ≤ 31) : has m (i : Int) = m.testBit i:=by
  unfold has;rw [decide_eq_true (by omega)];simp
theorem bit_div (m i : Nat) : m.testBit i = decide (m / 2 ^ i % 2 = 1):=Nat.testBit_eq_decide_div_mod_eq
def ids (m : Nat) (n : Nat) : List Nat:=(List.range n).filter fun i => m.testBit i
theorem JL (m n : Nat) : ids m (n + 1) = ids m n ++ (if m.testBit n then [n] else []):=by
  unfold ids
  rw [List.range_succ,List.filter_append]
  by_cases h : m.testBit n <;> simp [h]
theorem ids_len (m n : Nat) : (ids m n).length ≤ n:=by
  have:=List.length_filter_le (fun i => m.testBit i) (List.range n)
  simpa [ids] using this
theorem ids_mem (m n x : Nat) : x ∈ ids m n ↔ x < n ∧ m.testBit x = true:=by simp [ids]
def mask (l : List Nat) : Nat:=(l.map (2 ^ ·)).sum
theorem mask_snoc (l : List Nat) (x : Nat) : mask (l ++ [x]) = mask l + 2 ^ x:=by simp [mask]
theorem mask_le (l : List Nat) (h : ∀ x ∈ l,x ≤ 31) : mask l ≤ l.length * 2147483648:=by
  induction l with
  | nil => simp [mask]
  | cons x r ih =>
    have h1:=ih fun y hy => h y (by simp [hy])
    have h2 : 2 ^ x ≤ 2 ^ 31:=Nat.pow_le_pow_right (by decide) (h x (by simp))
    simp only [mask,List.map_cons,List.sum_cons,List.length_cons] at *
    omega
def within (a b n : Nat) : Bool:=(List.range n).all fun i => !a.testBit i || b.testBit i
def bad (l : List Int) (size : Int) (i : Nat) : Nat :=
  let x:=l.getD i 0
  if x < 0 ∨ size ≤ x ∨ 31 < x then 1 else if 0 < i ∧ x ≤ l.getD (i - 1) 0 then 5 else 0
def first (l : List Int) (size : Int) : Nat → Nat
  | 0 => 0
  | n + 1 => if first l size n = 0 then bad l size n else first l size n
def count (m : Nat) : Nat:=(ids m 32).length
def least (m : Nat) : Int:=match ids m 32 with | [] => -1 | x :: _ => (x : Int)
theorem bit_high (m i : Nat) (hm : m < 4294967296) (hi : 32 ≤ i) : m.testBit i = false :=
  Nat.testBit_lt_two_pow (Nat.lt_of_lt_of_le hm ((Nat.pow_le_pow_right (by decide) hi : 2 ^ 32 ≤ 2 ^ i)))
theorem within_iff (a b : Nat) : within a b 32 = true ↔ ∀ i,i < 32 → a.testBit i = true → b.testBit i = true:=by
  simp only [within,List.all_eq_true,List.mem_range]
  constructor
  · intro h i hi ha
    have:=h i hi
    rw [ha] at this;simpa using this
  · intro h i hi
    cases ha : a.testBit i
    · rfl
    · simp [h i hi ha]
theorem eq_of_bits (a b : Nat) (ha : a < 4294967296) (hb : b < 4294967296) (h : ∀ i,i < 32 → a.testBit i = b.testBit i) : a = b:=by
  apply Nat.eq_of_testBit_eq
  intro i
  rcases Nat.lt_or_ge i 32 with hi | hi
  · exact h i hi
  · rw [bit_high a i ha hi,bit_high b i hb hi]
def all (n : Int) : Nat:=if n ≤ 0 then 0 else if 32 ≤ n then 4294967295 else 2 ^ n.toNat - 1
def one (id : Int) : Nat:=if 0 ≤ id ∧ id ≤ 31 then 2 ^ id.toNat else 0
theorem one_nat (i : Nat) (h : i ≤ 31) : one (i : Int) = 2 ^ i:=by unfold one;rw [if_pos (by omega),Int.toNat_natCast]
theorem one_out (id : Int) (h : id < 0 ∨ 31 < id) : one id = 0:=by unfold one;rw [if_neg (by omega)]
theorem one_lt (id : Int) : one id < 4294967296:=by
  unfold one
  split
  · have : 2 ^ id.toNat ≤ 2 ^ 31:=Nat.pow_le_pow_right (by decide) (by omega)
    omega
  · decide
end Go.Proofs.YtfiafbflhglpeaaDoor.S
namespace Go.Proofs.YtfiafbflhglpeaaDoor
open Go.RowKit
set_option maxRecDepth 100000 in
set_option maxHeartbeats 800000 in
theorem x8 (m : Nat) (hm : m < 4294967296) (id : Int) (hid : -9223372036854775808 ≤ id ∧ id ≤ 9223372036854775807) (b : Bool) (hb : S.has m id = b) (w : World) :
    Calls Tryd.prog 15 #[.int .u32 (m : Int),.int .i64 id] w fun e w' => e = .returned (.bool b) ∧ w = w':=by
  have HB:=kp hb
  obtain ⟨hid1,hid2⟩:=hid
  clear hb
  by_cases h : id < 0 ∨ 31 < id
  · have HF : Kept (false = b):=kp <| by rw [← HB.out,S.has_out m id h]
    by_cases h0 : id < 0
    · clear h
      go_enter Tryd.func15,Tryd.ntmps15
      go_wp2
      go_ret
      exact ⟨jS HF.out,rfl⟩
    · have h1 : 31 < id:=h.resolve_left h0
      clear h
      go_enter Tryd.func15,Tryd.ntmps15
      go_wp2
      go_ret
      exact ⟨jS HF.out,rfl⟩
  · obtain ⟨n,rfl⟩ : ∃ n : Nat,id = (n : Int):=⟨id.toNat,by omega⟩
    have hn : n ≤ 31:=by omega
    have HT : Kept (decide (m / 2 ^ n % 2 = 1) = b):=kp <| by rw [← HB.out,S.has_in m n hn,S.bit_div]
    clear h hid1 hid2
    go_enter Tryd.func15,Tryd.ntmps15
    go_wp2
    go_loop [5,6] (fun v5 v6 => ∃ k : Nat,k ≤ n ∧ v6 = .int .i64 k ∧ v5 = .int .u64 ((m / 2 ^ k : Nat) : Int)) (fun _ v6 => n - (intOf v6).toNat)
    case atStart => exact ⟨0,by omega,rfl,by simp⟩
    case round =>
      obtain ⟨k,hk,rfl,rfl⟩:=hrel
      have hle : m / 2 ^ k ≤ m:=Nat.div_le_self _ _
      have HN : Kept (m / 2 ^ k / 2 = m / 2 ^ (k + 1)):=kp <| by rw [Nat.div_div_eq_div_mul,Nat.pow_succ]
      by_cases hlt : k < n
      · generalize m / 2 ^ k = q at *
        go_wp2
        go_round
        case rel => exact ⟨k + 1,by omega,by go_num,by rw [← HN.out];go_num⟩
        case measure => simp [intOf];omega
      · have HQ : Kept (decide (m / 2 ^ k % 2 = 1) = b):=kp <| by rw [show k = n by omega];exact HT.out
        generalize m / 2 ^ k = q at *
        go_wp2
        go_ret
        refine ⟨jS ?_,rfl⟩
        rw [← HQ.out,Bool.eq_iff_iff]
        simp
        omega
theorem xR (k : Nat) (h : k ≤ 31) : 2 ^ k ≤ 2147483648:=Nat.pow_le_pow_right (by decide) h
set_option maxRecDepth 100000 in
set_option maxHeartbeats 800000 in
theorem vJ (B : Nat) (A : Option Addr) (n c : Nat) (l : List Nat) (w : World) (hr : Row natV w B A n l) (hl : ∀ x ∈ l,x ≤ 31) (hn : n ≤ 100000) (m : Nat) (hm : S.mask l % 4294967296 = m) :
    Calls Tryd.prog 13 #[.slice A n c] w fun e w' => e = .returned (.int .u32 (m : Int)) ∧ w = w':=by
  have HR:=kp hr;have HL:=kp hl;have HMm:=kp hm
  clear hr hl hm
  go_enter Tryd.func13,Tryd.ntmps13
  go_wp2
  go_loop [3,4] (fun v3 v4 => ∃ k : Nat,k ≤ n ∧ v4 = .int .i64 k ∧ v3 = .int .u64 ((S.mask (l.take k) : Nat) : Int)) (fun _ v4 => n - (intOf v4).toNat)
  case atStart => exact ⟨0,by omega,rfl,rfl⟩
  case round =>
    obtain ⟨k,hk,rfl,rfl⟩:=hrel
    have hle : S.mask (l.take k) ≤ 214748364800000:=by
      have h1:=S.mask_le (l.take k) fun x hx => HL.out x (List.mem_of_mem_take hx)
      have h2 : (l.take k).length ≤ k:=List.length_take_le _ _
      have h3 : (l.take k).length * 2147483648 ≤ 100000 * 2147483648:=Nat.mul_le_mul_right _ (by omega)
      omega
    by_cases hlt : k < n
    · obtain ⟨ad,x,rfl,hab,hx,hc⟩:=HR.out.get hlt
      rw [l6] at hc
      have hx31:=HL.out x (List.mem_of_getElem? hx)
      have HN : Kept (S.mask (l.take (k + 1)) = S.mask (l.take k) + 2 ^ x):=kp <| by rw [List.take_add_one,hx];exact S.mask_snoc _ _
      have hp:=xR x hx31
      clear hx hab
      generalize S.mask (l.take k) = q at *
      go_wp2
      go_loop [5,6] (fun v5 v6 => ∃ j : Nat,j ≤ x ∧ v6 = .int .i64 j ∧ v5 = .int .u64 ((2 ^ j : Nat) : Int)) (fun _ v6 => x - (intOf v6).toNat)
      case atStart => exact ⟨0,by omega,rfl,rfl⟩
      case round =>
        obtain ⟨j,hj,rfl,rfl⟩:=hrel
        have hp2:=xR j (by omega)
        have HP : Kept (2 ^ (j + 1) = 2 ^ j * 2):=kp <| Nat.pow_succ 2 j
        by_cases hjx : j < x
        · generalize 2 ^ j = p at *
          go_wp2
          go_round
          case rel => exact ⟨j + 1,by omega,by go_num,by rw [HP.out];go_num⟩
          case measure => simp [intOf];omega
        · have HE : Kept (2 ^ j = 2 ^ x):=kp <| by rw [show j = x by omega]
          generalize 2 ^ j = p at *
          go_wp2
          go_round
          case rel => exact ⟨k + 1,by omega,by go_num,by rw [HN.out,← HE.out];go_num⟩
          case measure => simp [intOf];omega
    · have HT : Kept (l.take k = l):=kp <| List.take_of_length_le (by rw [HR.out.len];omega)
      have HM : Kept (S.mask (l.take k) = S.mask l):=kp <| by rw [HT.out]
      have hge : n ≤ k:=by omega
      clear HT hlt
      generalize S.mask (l.take k) = q at *
      go_wp2
      go_ret
      exact ⟨l4 (by rw [← HMm.out,← HM.out];omega),rfl⟩
def Edge (l : List Nd) (j i : Nat) : Prop:=i < l.length ∧ ∃ nd,l[j]? = some nd ∧ (i : Int) ∈ Q.succ nd
def Behind (l : List Nd) (from_ : List Int) (i : Nat) : Prop:=∃ j : Nat,(j : Int) ∈ from_ ∧ j < l.length ∧ Q.Reach (Edge l) l.length j i
def Start (from_ : List Int) (o : Nat → Bool) (j : Nat) : Prop:=(j : Int) ∈ from_ ∨ o j = true
def Closed (l : List Nd) (from_ : List Int) (o : Nat → Bool) : Prop:=∀ j i,j < l.length → Start from_ o j → Edge l j i → o i = true
def Sound (l : List Nd) (from_ : List Int) (o : Nat → Bool) : Prop:=∀ i,o i = true → i < l.length ∧ Behind l from_ i
theorem JZ {l : List Nd} {from_ : List Int} {o : Nat → Bool} (hs : Sound l from_ o) {j i : Nat} (hj : j < l.length) (h : Start from_ o j) (he : Edge l j i) : i < l.length ∧ Behind l from_ i:=by
  refine ⟨he.1,?_⟩
  rcases h with h | h
  · exact ⟨j,h,hj,.one he⟩
  · obtain ⟨_,k,hk,hkl,hr⟩:=hs j h
    exact ⟨k,hk,hkl,hr.trans hj (.one he)⟩
structure RoundInv (l : List Nd) (from_ : List Int) (o0 o : Nat → Bool) (i : Nat) : Prop where
  mono : ∀ g,o0 g = true → o g = true
  sound : Sound l from_ o
  done : ∀ j y,j < i → Start from_ o0 j → Edge l j y → o y = true
  keep : Closed l from_ o0 → ∀ g,o g = true → o0 g = true
theorem RoundInv.start {l : List Nd} {from_ : List Int} {o : Nat → Bool} (h : Sound l from_ o) : RoundInv l from_ o o 0:=⟨fun _ h => h,h,fun j y hj => by omega,fun _ _ h => h⟩
theorem RoundInv.skip {l : List Nd} {from_ : List Int} {o0 o : Nat → Bool} {i : Nat} (h : RoundInv l from_ o0 o i) (hn : ¬ Start from_ o i) : RoundInv l from_ o0 o (i + 1):=by
  refine ⟨h.mono,h.sound,fun j y hj hs he => ?_,h.keep⟩
  by_cases hji : j = i
  · subst hji
    refine absurd ?_ hn
    rcases hs with hs | hs
    · exact .inl hs
    · exact .inr (h.mono _ hs)
  · exact h.done j y (by omega) hs he
structure StepInv (l : List Nd) (o o' : Nat → Bool) (s : List Int) (k : Nat) : Prop where
  mono : ∀ g,o g = true → o' g = true
  new : ∀ g,o' g = true → o g = true ∨ (g < l.length ∧ ∃ j,j < k ∧ s[j]? = some (g : Int))
  done : ∀ (j g : Nat),j < k → s[j]? = some (g : Int) → g < l.length → o' g = true
theorem StepInv.start (l : List Nd) (o : Nat → Bool) (s : List Int) : StepInv l o o s 0:=⟨fun _ h => h,fun _ h => .inl h,fun j g hj => by omega⟩
theorem StepInv.skip {l : List Nd} {o o' : Nat → Bool} {s : List Int} {k : Nat} {y : Int} (h : StepInv l o o' s k) (hy : s[k]? = some y) (hn : ¬ (0 ≤ y ∧ y < (l.length : Int))) : StepInv l o o' s (k + 1):=by
  refine ⟨h.mono,fun g hg => ?_,fun j g hj hjs hg => ?_⟩
  · rcases h.new g hg with h1 | ⟨h1,j,hj,h2⟩
    · exact .inl h1
    · exact .inr ⟨h1,j,by omega,h2⟩
  · by_cases hjk : j = k
    · subst hjk;rw [hy] at hjs;cases hjs;exact absurd ⟨by omega,by omega⟩ hn
    · exact h.done j g (by omega) hjs hg
theorem StepInv.set {l : List Nd} {o o' : Nat → Bool} {s : List Int} {k y : Nat} (h : StepInv l o o' s k) (hy : s[k]? = some (y : Int)) (hlt : y < l.length) : StepInv l o (fun g => if g = y then true else o' g) s (k + 1):=by
  refine ⟨fun g hg => ?_,fun g hg => ?_,fun j g hj hjs hg => ?_⟩
  · split
    · rfl
    · exact h.mono g hg
  · by_cases hgy : g = y
    · subst hgy;exact .inr ⟨hlt,k,by omega,hy⟩
    · simp only [if_neg hgy] at hg
      rcases h.new g hg with h1 | ⟨h1,j,hj,h2⟩
      · exact .inl h1
      · exact .inr ⟨h1,j,by omega,h2⟩
  · by_cases hgy : g = y
    · rw [if_pos hgy]
    · rw [if_neg hgy]
      by_cases hjk : j = k
      · subst hjk;rw [hy] at hjs;injection hjs with e;omega
      · exact h.done j g (by omega) hjs hg
theorem RoundInv.step {l : List Nd} {from_ : List Int} {o0 o o' : Nat → Bool} {i : Nat} {nd : Nd} (h : RoundInv l from_ o0 o i) (hi : l[i]? = some nd) (hs : Start from_ o i) (hst : StepInv l o o' (Q.succ nd) (Q.succ nd).length) : RoundInv l from_ o0 o' (i + 1):=by
  have hil : i < l.length:=(List.getElem?_eq_some_iff.1 hi).1
  have edge : ∀ g,g < l.length → (∃ j,j < (Q.succ nd).length ∧ (Q.succ nd)[j]? = some (g : Int)) → Edge l i g:=by
    rintro g hg ⟨j,_,hj⟩
    exact ⟨hg,nd,hi,List.mem_of_getElem? hj⟩
  refine ⟨fun g hg => hst.mono g (h.mono g hg),fun g hg => ?_,fun j y hj hsj he => ?_,fun hc g hg => ?_⟩
  · rcases hst.new g hg with h1 | ⟨h1,h2⟩
    · exact h.sound g h1
    · exact JZ h.sound hil hs (edge g h1 h2)
  · by_cases hji : j = i
    · subst hji
      obtain ⟨hyl,nd',hnd',hmem⟩:=he
      rw [hi] at hnd';cases hnd'
      obtain ⟨k,hk⟩:=List.mem_iff_getElem?.1 hmem
      exact hst.done k y (List.getElem?_eq_some_iff.1 hk).1 hk hyl
    · exact hst.mono y (h.done j y (by omega) hsj he)
  · rcases hst.new g hg with h1 | ⟨h1,h2⟩
    · exact h.keep hc g h1
    · have hs0 : Start from_ o0 i:=by
        rcases hs with hs | hs
        · exact .inl hs
        · exact .inr (h.keep hc i hs)
      exact hc i g hil hs0 (edge g h1 h2)
theorem RoundInv.gain {l : List Nd} {from_ : List Int} {o0 o : Nat → Bool} {r : Nat} (h : RoundInv l from_ o0 o l.length) (hr : Closed l from_ o0 ∨ r ≤ cnt o0 l.length) : Closed l from_ o ∨ r + 1 ≤ cnt o l.length:=by
  by_cases hc : Closed l from_ o0
  · refine .inl fun j i hj hs he => h.mono i (hc j i hj ?_ he)
    rcases hs with hs | hs
    · exact .inl hs
    · exact .inr (h.keep hc j hs)
  · have hr' : r ≤ cnt o0 l.length:=hr.resolve_left hc
    have hx : ∃ j i,j < l.length ∧ Start from_ o0 j ∧ Edge l j i ∧ o0 i = false:=by
      refine Classical.byContradiction fun hno => hc fun j i hj hs he => ?_
      cases ho : o0 i
      · exact absurd ⟨j,i,hj,hs,he,ho⟩ hno
      · rfl
    obtain ⟨j,i,hj,hs,he,ho⟩:=hx
    have:=cnt_lt (f:=i) l.length (fun g _ hg => h.mono g hg) he.1 ho (h.done j i hj hs he)
    exact .inr (by omega)
def lenV : Value → Nat
  | .slice _ n _ => n
  | _ => 0
def NextFrom (p : Pg) (l : List Nat) (k : Nat) (nx : Int) : Prop :=
  (nx = -1 ∧ ∀ g,k ≤ g → g < p.len → ¬ Free p l g) ∨ ∃ m : Nat,nx = (m : Int) ∧ k ≤ m ∧ m < p.len ∧ Free p l m ∧ ∀ g,k ≤ g → g < m → ¬ Free p l g
theorem NextFrom.skip {p : Pg} {l : List Nat} {k : Nat} {nx : Int} (h : NextFrom p l (k + 1) nx) (hn : ¬ Free p l k) : NextFrom p l k nx:=by
  rcases h with ⟨h1,h2⟩ | ⟨m,h1,h2,h3,h4,h5⟩
  · refine .inl ⟨h1,fun g hg hl => ?_⟩
    by_cases hgk : g = k
    · subst hgk;exact hn
    · exact h2 g (by omega) hl
  · refine .inr ⟨m,h1,by omega,h3,h4,fun g hg hl => ?_⟩
    by_cases hgk : g = k
    · subst hgk;exact hn
    · exact h5 g (by omega) hl
theorem NextFrom.take {p : Pg} {l : List Nat} {k : Nat} (hk : k < p.len) (hf : Free p l k) : NextFrom p l k (k : Int):=.inr ⟨k,rfl,Nat.le_refl _,hk,hf,fun g h1 h2 => by omega⟩
def outB (o : Nat → Bool) (n : Nat) : List Value:=(List.range n).map fun g => .bool (o g)
theorem xA (o : Nat → Bool) (n f : Nat) (hf : f < n) : (outB o n)[f]? = some (.bool (o f)):=by
  unfold outB
  rw [List.getElem?_map,List.getElem?_range hf];rfl
theorem yP (o : Nat → Bool) (n : Nat) : (outB o n).length = n:=by simp [outB]
theorem JD (o : Nat → Bool) (n f : Nat) : (outB o n).set f (.bool true) = outB (fun g => if g = f then true else o g) n:=by
  apply List.ext_getElem?
  intro i
  by_cases hi : i < n
  · rw [xA _ n i hi]
    by_cases hif : f = i
    · subst hif
      rw [List.getElem?_set_self (by rw [yP];exact hi),if_pos rfl]
    · rw [List.getElem?_set_ne hif,xA _ n i hi,if_neg (fun e => hif e.symm)]
  · rw [List.getElem?_eq_none (by rw [List.length_set,yP];omega),List.getElem?_eq_none (by rw [yP];omega)]
theorem XI (n : Nat) : List.replicate n (Value.bool false) = outB (fun _ => false) n:=by
  apply List.ext_getElem?
  intro i
  by_cases hi : i < n
  · rw [xA _ n i hi,List.getElem?_replicate,if_pos hi]
  · rw [List.getElem?_eq_none (by rw [List.length_replicate];omega),List.getElem?_eq_none (by rw [yP];omega)]
theorem Y3 : (Tryd.prog.info? 4).map (fun i => (i.zero,i.size,i.bytes)) = some (some (.bool false),1,1):=by kernel_rfl
end Go.Proofs.YtfiafbflhglpeaaDoor
