/- ProgP5, ProgP, ProgLaw1, ProgLaw2, SmallPg, MustIn, GraphRef1, ProgOrd, GraphOrd, SetMath, SetRef1, SetRef2, GraphAfter, GraphRef2, GraphRef3, GraphReach. -/
import Derived.Test.YtlgaefenhfmjfaaDoorProgP3
import Derived.Test.YtlgaefenhfmjfaaDoorProgP4
import Derived.Test.YtlgaefenhfmjfaaDoorPu1
import Derived.Test.YtlgaefenhfmjfaaDoorProgRef5
import Derived.BigQuiet
import Derived.WalkKit
import Derived.Test.YtlgaefenhfmjfaaDoorRows
import Derived.Deep.QuietTactic
import Derived.Deep.RegionWith
namespace Go.Proofs.YtlgaefenhfmjfaaDoor
open Go.RowKit
set_option maxRecDepth 1000000 in
set_option maxHeartbeats 8000000 in
theorem xV (B : Nat) (p : Pg) (w : World) (hp : p.Ok w B) (hB : B ≤ w.heap.size) (hco : Q.Counts p) (hfine : ∀ j,j < p.fns.length → ¬ Q.badFn p j) (a b : Int) (c : Nat) (hc : Q.check p = (a,b,c)) :
    Calls Tryd.prog 50 #[pgA p] w fun e w' => e = .returned (.tuple #[.int .i64 a,.int .i64 b,.int .i64 (c : Int)]) ∧ Below w.heap.size w w':=by
  have HP:=kp hp;have HC:=kp hc;have HCo:=kp hco;have HFine:=kp hfine
  have HFit:=kp (zA hfine)
  have hlen:=hp.row.len
  have HLen:=kp hlen
  have h16 : p.len ≤ 16:=by rw [← hlen];exact hco.f.2
  have hlc:=hp.lc;have hcm:=hp.cm
  unfold maxLen at hcm
  have hcm9 : p.cap ≤ 9223372036854775807:=by omega
  clear hp hfine hlen hcm hc hco
  rw [jT]
  go_enter Tryd.func50,Tryd.ntmps50
  go_wp2_with (first
    | ((with_reducible refine j4 rfl 24 (.tmp 0) rfl (pgC p) rfl ?_);intro g1 w1 hg1 hk1 hw1;have HK1:=kp hk1;have HW1:=kp hw1;have hs1:=hw1.size;have HP1:=kp (HP.out.below (hw1.mono hB));clear hg1 hk1 hw1)
    | ((with_reducible show Sl 10);go_must (refine j5 rfl 24 (.tmp 1) rfl g1 rfl _ (pgC p) _ HK1.out Tryd.underlying24 rfl jI ?_))
    | (go_at_call 71;go_must (refine (zF B p _ HP1.out (by omega) HFit.out h16).mono ?_);rintro e9 w2 ⟨L,rfl,hL,hent,hw2⟩;have HL:=kp hL;have HEnt:=kp hent;have HKp2:=kp (HK1.out.below hw2 HK1.out.lt);have HW2:=kp (HW1.out.trans (hw2.mono hs1));have hs2:=HW2.out.size;clear hL hent hw2)
    | ((with_reducible show Sl 5);go_must (refine j6 rfl 122 rfl (relC (List.replicate 256 false)) y7 ?_);intro g3 w3 hg3 hk3 hw3;have HG3:=kp hg3;have HK3:=kp hk3;have HW3:=kp hw3;clear hg3 hk3 hw3)
    | ((with_reducible show Sn);go_must (refine j7 rfl 122 (.tmp 5) (.tmp 11) rfl g3 (relC L) rfl rfl _ _ HK3.out (by rw [lC,HL.out];exact qN) (by rw [lC,lC,HL.out,List.length_replicate]) (zQ L) ?_);intro w4 hk4 hg4 _
       have HK4:=kp hk4
       have HB24:=kp (HW3.out.grown hg4 HW3.out.size (fun k hk => by cases hk;exact HG3.out))
       have HKp4:=kp (HKp2.out.below HB24.out HKp2.out.lt)
       obtain ⟨hc0,hc1,hc2,hc3⟩:=j8 HKp4.out
       have HW4:=kp (HW2.out.trans (HB24.out.mono hs2))
       have hs4:=HW4.out.size
       clear hk4 hg4))
  clear hc0 hc1 hc2 hc3
  have HP4:=kp (HP.out.below (HW4.out.mono hB))
  have hB4 : B ≤ w4.heap.size:=by omega
  go_loopw [15] (fun v15 wr => ∃ f : Nat,f ≤ p.len ∧ v15 = .int .i64 f ∧ (∀ j,j < f → ¬ Q.badRound p j) ∧ Below w4.heap.size w4 wr) (fun v15 _ => p.len - (intOf v15).toNat)
  case atStart => exact ⟨0,by omega,rfl,fun j hj => by omega,Below.refl _ _⟩
  case round =>
    obtain ⟨f,hf,rfl,hpre,hbl⟩:=hrel
    have HPre:=kp hpre;have HBL:=kp hbl
    have HPr:=kp (HP4.out.below (hbl.mono hB4))
    clear hpre hbl
    by_cases hlt : f < p.len
    · obtain ⟨ad,fn,e1,hab0,hx,hok0,hcf⟩:=HPr.out.fn hlt
      rw [e1]
      have HE1:=kp e1
      clear e1
      have HX:=kp hx
      obtain ⟨hf0,hf64,hmays⟩:=Q.fine_fn hx (HFine.out f (by rw [HLen.out];exact hlt))
      have hfl:=hok0.nodes.1.len
      have hfc:=hok0.lc;have hfm:=hok0.cm
      unfold maxLen at hfm
      have hfm9 : fn.cap ≤ 9223372036854775807:=by omega
      rw [hfl] at hf64
      have HMays:=kp hmays
      have HFl:=kp hfl
      clear hx hok0 hfm hf0 hmays hfl
      go_wp2
      clear hcf
      go_loopw [22] (fun v22 wq => ∃ i : Nat,i ≤ fn.len ∧ v22 = .int .i64 i ∧ (∀ j,j < i → ¬ Q.roundAt p f j) ∧ Below w4.heap.size w4 wq) (fun v22 _ => fn.len - (intOf v22).toNat)
      case atStart => exact ⟨0,by omega,rfl,fun j hj => by omega,HBL.out⟩
      case round =>
        clear HBL HPr
        obtain ⟨i,hi,rfl,hpre,hbl⟩:=hrel
        have HPreI:=kp hpre;have HBL:=kp hbl
        have hszq:=hbl.size
        obtain ⟨ad',fn',e1',hab,hx',hok,_⟩:=(HP4.out.below (hbl.mono hB4)).fn hlt
        rw [HE1.out] at e1'
        cases e1'
        rw [HX.out] at hx'
        cases hx'
        have HK:=kp (HK4.out.below hbl HK4.out.lt)
        clear hpre hbl
        by_cases hli : i < fn.len
        · obtain ⟨bd,x,e3,hbb,hy,hxok,hn0,hn1,hn2,hn3⟩:=hok.nodes.get hli
          rw [e3]
          have HY:=kp hy
          clear hok hy hxok e3
          by_cases h7 : x.kind = 7
          · have hz7 : (x.kind == 7) = true:=by simpa using h7
            obtain ⟨ha0,han⟩:=vA (HMays.out i x HY.out) h7
            obtain ⟨k,hk⟩ : ∃ k : Nat,x.arg = (k : Int):=⟨x.arg.toNat,by omega⟩
            have hkn : k < p.len:=by omega
            have hk16 : k < 16:=by omega
            have hf16 : f < 16:=by omega
            obtain ⟨v,hv,hev⟩:=Q.ent_at HL.out hk16 hf16
            have HV:=kp hv
            have HRd : Kept (Q.roundAt p f i ↔ v = true):=kp <| by
              rw [← hev,HEnt.out k f hk16 hf16]
              unfold Q.roundAt
              have hcall : Q.calls p f k:=⟨fn,HX.out,x,List.mem_of_getElem? HY.out,h7,hk⟩
              constructor
              · rintro ⟨fn2,nd,g1',g2',_,k2,g4,g5,g6⟩
                rw [HX.out] at g1'
                cases g1'
                rw [HY.out] at g2'
                cases g2'
                have : k2 = k:=by omega
                subst this
                rcases g6 with g6 | g6
                · subst g6
                  exact .one hcall
                · rw [HLen.out] at g6
                  exact Q.reach_more h16 g6
              · intro h
                refine ⟨fn,x,HX.out,HY.out,h7,k,hk,by rw [HLen.out];exact hkn,.inr ?_⟩
                rw [HLen.out]
                exact Q.reach_less (Q.calls_lt HFit.out) h
            have HKx:=kp hk
            have hfi : (f : Int) < (16 : Int):=by omega
            have hki : (k : Int) < (16 : Int):=by omega
            have hf0 : (0 : Int) ≤ (f : Int):=by omega
            have hk0 : (0 : Int) ≤ (k : Int):=by omega
            clear h7 ha0 han hk hv hev
            cases v
            · have HNx : Kept (∀ j,j < i + 1 → ¬ Q.roundAt p f j):=kp fun j hj h => by
                by_cases e : j = i
                · subst e
                  have:=HRd.out.1 h
                  cases this
                · exact HPreI.out j (by omega) h
              go_wp2_with (first
                | ((with_reducible show Sl 9);go_must (refine j6 rfl 63 rfl (ndC ⟨0,0,0,0⟩) jZ ?_);intro g5 w6 hg5 hk6 hw6;have HG5:=kp hg5;have HK6:=kp hk6;have HW6:=kp hw6;clear hg5 hk6 hw6)
                | ((with_reducible show Sn);go_must (refine j7 rfl 63 (.tmp 9) (.tmp 26) rfl g5 (ndC x) rfl rfl _ _ HK6.out jE rfl (l0 x) ?_);intro w7 hk7 hg7 hs7
                   obtain ⟨hx0,hx1,hx2,hx3⟩:=jB hk7
                   have HBq7:=kp (HW6.out.grown hg7 HW6.out.size (fun k hk => by cases hk;exact HG5.out))
                   have HB7:=kp (HBL.out.trans (HBq7.out.mono hszq))
                   have hcv:=((HK.out.below HBq7.out HK.out.lt).cell (k * 16 + f)).trans (jY HV.out)
                   rw [HKx.out] at hx1
                   clear hk7 hg7 hs7 hn0 hn1 hn2 hn3))
              go_roundw
              case rel => exact ⟨i + 1,by omega,by go_num,HNx.out,HB7.out⟩
              case measure => simp [intOf];omega
            · have HE:=kp (qZ HC.out (Q.check_round HCo.out HFine.out (HRd.out.2 rfl) (by omega) (by rw [HLen.out];exact hlt) HPre.out HPreI.out))
              go_wp2_with (first
                | ((with_reducible show Sl 9);go_must (refine j6 rfl 63 rfl (ndC ⟨0,0,0,0⟩) jZ ?_);intro g5 w6 hg5 hk6 hw6;have HG5:=kp hg5;have HK6:=kp hk6;have HW6:=kp hw6;clear hg5 hk6 hw6)
                | ((with_reducible show Sn);go_must (refine j7 rfl 63 (.tmp 9) (.tmp 26) rfl g5 (ndC x) rfl rfl _ _ HK6.out jE rfl (l0 x) ?_);intro w7 hk7 hg7 hs7
                   obtain ⟨hx0,hx1,hx2,hx3⟩:=jB hk7
                   have HBq7:=kp (HW6.out.grown hg7 HW6.out.size (fun k hk => by cases hk;exact HG5.out))
                   have HB7:=kp (HBL.out.trans (HBq7.out.mono hszq))
                   have hcv:=((HK.out.below HBq7.out HK.out.lt).cell (k * 16 + f)).trans (jY HV.out)
                   rw [HKx.out] at hx1
                   clear hk7 hg7 hs7 hn0 hn1 hn2 hn3))
              go_ret3
              exact ⟨HE.out,HW4.out.trans (HB7.out.mono hs4)⟩
          · have hz7 : (x.kind == 7) = false:=by simpa using h7
            have HNx : Kept (∀ j,j < i + 1 → ¬ Q.roundAt p f j):=kp fun j hj h => by
              by_cases e : j = i
              · subst e
                obtain ⟨fn2,nd,g1',g2',g3,_⟩:=h
                rw [HX.out] at g1'
                cases g1'
                rw [HY.out] at g2'
                cases g2'
                exact h7 g3
              · exact HPreI.out j (by omega) h
            clear h7
            go_wp2_with (first
              | ((with_reducible show Sl 9);go_must (refine j6 rfl 63 rfl (ndC ⟨0,0,0,0⟩) jZ ?_);intro g5 w6 hg5 hk6 hw6;have HG5:=kp hg5;have HK6:=kp hk6;have HW6:=kp hw6;clear hg5 hk6 hw6)
              | ((with_reducible show Sn);go_must (refine j7 rfl 63 (.tmp 9) (.tmp 26) rfl g5 (ndC x) rfl rfl _ _ HK6.out jE rfl (l0 x) ?_);intro w7 hk7 hg7 hs7
                 obtain ⟨hx0,hx1,hx2,hx3⟩:=jB hk7
                 have HBq7:=kp (HW6.out.grown hg7 HW6.out.size (fun k hk => by cases hk;exact HG5.out))
                 have HB7:=kp (HBL.out.trans (HBq7.out.mono hszq))
                 clear hk7 hg7 hs7 hn0 hn1 hn2 hn3))
            go_roundw
            case rel => exact ⟨i + 1,by omega,by go_num,HNx.out,HB7.out⟩
            case measure => simp [intOf];omega
        · have HNx : Kept (∀ j,j < f + 1 → ¬ Q.badRound p j):=kp fun j hj h => by
            by_cases e : j = f
            · subst e
              obtain ⟨i2,h2⟩:=h
              by_cases hlt2 : i2 < i
              · exact HPreI.out i2 hlt2 h2
              · obtain ⟨fn2,nd,g1',g2',_⟩:=h2
                rw [HX.out] at g1'
                cases g1'
                have:=(List.getElem?_eq_some_iff.1 g2').1
                rw [HFl.out] at this
                omega
            · exact HPre.out j (by omega) h
          have hge : fn.len ≤ i:=by omega
          clear hli hok
          go_wp2
          go_roundw
          case rel => exact ⟨f + 1,by omega,by go_num,HNx.out,HBL.out⟩
          case measure => simp [intOf];omega
    · have HE:=kp (qZ HC.out (Q.check_fine HCo.out HFine.out fun j hj => HPre.out j (by rw [HLen.out] at hj;omega)))
      have hge : p.len ≤ f:=by omega
      clear hlt
      go_wp2
      go_ret3
      exact ⟨HE.out,HW4.out.trans (HBL.out.mono hs4)⟩
theorem counts_of {p : Pg} (hlen : p.fns.length = p.len) (h : countsFault p = 0) : Q.Counts p:=by
  unfold countsFault at h
  split at h
  · cases h
  · split at h
    · cases h
    · exact ⟨by omega,by omega,by omega,by omega⟩
theorem zK {p : Pg} (hlen : p.fns.length = p.len) (h : countsFault p ≠ 0) : Q.check p = (-1,-1,countsFault p) ∧ (countsFault p = 1 ∨ countsFault p = 4):=by
  unfold countsFault Q.check at *
  rw [hlen]
  split
  · simp
  · split
    · simp
    · rename_i h1 h2
      rw [if_neg h1,if_neg h2] at h
      exact absurd rfl h
set_option maxRecDepth 1000000 in
set_option maxHeartbeats 8000000 in
theorem y8 (B : Nat) (p : Pg) (w : World) (hp : p.Ok w B) (hB : B ≤ w.heap.size) (a b : Int) (c : Nat) (hc : Q.check p = (a,b,c)) :
    Calls Tryd.prog 27 #[pgA p] w fun e w' => e = .returned (.tuple #[.int .i64 a,.int .i64 b,.int .i64 (c : Int)]) ∧ Below w.heap.size w w':=by
  have HP:=kp hp;have HC:=kp hc
  have hlen:=hp.row.len
  have HLen:=kp hlen
  have hlc:=hp.lc;have hcm:=hp.cm
  unfold maxLen at hcm
  have hcm9 : p.cap ≤ 9223372036854775807:=by omega
  obtain ⟨q,hq⟩ : ∃ q,countsFault p = q:=⟨_,rfl⟩
  have HQ:=kp hq
  clear hp hcm hc
  rw [jT]
  by_cases hq0 : q = 0
  · subst hq0
    have HCo:=kp (counts_of hlen hq)
    clear hlen hq
    go_enter Tryd.func27,Tryd.ntmps27
    go_wp2_with (first
      | ((with_reducible refine j4 rfl 24 (.tmp 0) rfl (pgC p) rfl ?_);intro g1 w1 hg1 hk1 hw1;have HK1:=kp hk1;have HW1:=kp hw1;have hs1:=hw1.size;have HP1:=kp (HP.out.below (hw1.mono hB));clear hg1 hk1 hw1)
      | ((with_reducible show Sl 10);go_must (refine j5 rfl 24 (.tmp 1) rfl g1 rfl _ (pgC p) _ HK1.out Tryd.underlying24 rfl jI ?_))
      | (go_at_call 48;go_must (refine (lN p _ HQ.out _).mono ?_);rintro e9 w2 ⟨rfl,hw2⟩;have HKp2:=kp (HK1.out.below hw2 HK1.out.lt);obtain ⟨hc0,hc1,hc2,hc3⟩:=j8 HKp2.out;have HW2:=kp (HW1.out.trans (hw2.mono hs1));have hs2:=HW2.out.size;clear hw2))
    clear hc0 hc1 hc2 hc3
    have HP2:=kp (HP.out.below (HW2.out.mono hB))
    have hB2 : B ≤ w2.heap.size:=by omega
    go_loopw [18] (fun v18 wr => ∃ f : Nat,f ≤ p.len ∧ v18 = .int .i64 f ∧ (∀ j,j < f → ¬ Q.badFn p j) ∧ Below w2.heap.size w2 wr) (fun v18 _ => p.len - (intOf v18).toNat)
    case atStart => exact ⟨0,by omega,rfl,fun j hj => by omega,Below.refl _ _⟩
    case round =>
      obtain ⟨f,hf,rfl,hpre,hbl⟩:=hrel
      have HPre:=kp hpre;have HBL:=kp hbl
      have hszr:=hbl.size
      have HPr:=kp (HP2.out.below (hbl.mono hB2))
      have HKr:=kp (HKp2.out.below hbl HKp2.out.lt)
      have hBr : B ≤ wr.heap.size:=by omega
      clear hpre hbl
      by_cases hlt : f < p.len
      · obtain ⟨ad,fn,e1,hab0,hx,hok0,hcf⟩:=HPr.out.fn hlt
        rw [e1]
        have HX:=kp hx;have HOk:=kp hok0
        obtain ⟨a',c',hfa⟩ : ∃ a' c',Q.fnFault p fn = (a',c'):=⟨_,_,rfl⟩
        have HFa:=kp hfa
        clear hx hok0 e1 hfa
        by_cases hz : c' = 0
        · subst hz
          have HNx : Kept (∀ j,j < f + 1 → ¬ Q.badFn p j):=kp fun j hj h => by
            by_cases e : j = f
            · subst e
              obtain ⟨fn2,h1,h2⟩:=h
              rw [HX.out] at h1
              cases h1
              rw [HFa.out] at h2
              exact h2 rfl
            · exact HPre.out j (by omega) h
          go_wp2_with (first
            | ((with_reducible show Sl 24);go_must (refine j5 rfl 24 (.tmp 1) rfl g1 rfl _ (pgC p) _ HKr.out Tryd.underlying24 rfl jI ?_))
            | (go_at_call 49;go_must (refine (lW B p fn _ _ HFa.out _ HPr.out HOk.out hBr).mono ?_);rintro e9 w9 ⟨rfl,hw9⟩;have HB9:=kp (HBL.out.trans (hw9.mono hszr));clear hw9))
          go_roundw
          case rel => exact ⟨f + 1,by omega,by go_num,HNx.out,HB9.out⟩
          case measure => simp [intOf];omega
        · have hzb : ((c' : Int) != 0) = true:=by rw [bne_iff_ne];omega
          have HE:=kp (qZ HC.out (Q.check_fn HCo.out HX.out (by rw [HFa.out];exact hz) HPre.out))
          rw [HFa.out] at HE
          clear hz
          go_wp2_with (first
            | ((with_reducible show Sl 24);go_must (refine j5 rfl 24 (.tmp 1) rfl g1 rfl _ (pgC p) _ HKr.out Tryd.underlying24 rfl jI ?_))
            | (go_at_call 49;go_must (refine (lW B p fn _ _ HFa.out _ HPr.out HOk.out hBr).mono ?_);rintro e9 w9 ⟨rfl,hw9⟩;have HB9:=kp (HBL.out.trans (hw9.mono hszr));clear hw9))
          go_ret3
          exact ⟨HE.out,HW2.out.trans (HB9.out.mono hs2)⟩
      · have HFine : Kept (∀ j,j < p.fns.length → ¬ Q.badFn p j):=kp fun j hj => HPre.out j (by rw [HLen.out] at hj;omega)
        have hge : p.len ≤ f:=by omega
        clear hlt
        go_wp2_with (first
          | ((with_reducible show Sl 35);go_must (refine j5 rfl 24 (.tmp 1) rfl g1 rfl _ (pgC p) _ HKr.out Tryd.underlying24 rfl jI ?_))
          | (go_at_call 50;go_must (refine (xV B p _ HPr.out hBr HCo.out HFine.out a b c HC.out).mono ?_);rintro e9 w9 ⟨rfl,hw9⟩;have HB9:=kp (HBL.out.trans (hw9.mono hszr));clear hw9))
        go_ret3
        exact ⟨rfl,HW2.out.trans (HB9.out.mono hs2)⟩
  · obtain ⟨hck,hor⟩:=zK hlen (by rw [hq];exact hq0)
    rw [hq] at hck hor
    have HE:=kp (qZ HC.out hck)
    have hqb : ((q : Int) != 0) = true:=by rw [bne_iff_ne];omega
    clear hck hq hlen hq0 hor
    go_enter Tryd.func27,Tryd.ntmps27
    go_wp2_with (first
      | ((with_reducible refine j4 rfl 24 (.tmp 0) rfl (pgC p) rfl ?_);intro g1 w1 hg1 hk1 hw1;have HK1:=kp hk1;have HW1:=kp hw1;have hs1:=hw1.size;clear hg1 hk1 hw1)
      | ((with_reducible show Sl 10);go_must (refine j5 rfl 24 (.tmp 1) rfl g1 rfl _ (pgC p) _ HK1.out Tryd.underlying24 rfl jI ?_))
      | (go_at_call 48;go_must (refine (lN p _ HQ.out _).mono ?_);rintro e9 w2 ⟨rfl,hw2⟩;have HW2:=kp (HW1.out.trans (hw2.mono hs1));clear hw2))
    go_ret3
    exact ⟨HE.out,HW2.out⟩
theorem y9 (B : Nat) (p : Pg) (w : World) (hp : p.Ok w B) (hB : B ≤ w.heap.size) (_hs : Q.small p = true) (a b : Int) (c : Nat) (hc : Q.check p = (a,b,c)) :
    Calls Tryd.prog 27 #[pgA p] w fun e w' => e = .returned (.tuple #[.int .i64 a,.int .i64 b,.int .i64 (c : Int)]) ∧ Below w.heap.size w w':=y8 B p w hp hB a b c hc
theorem lU {P : Nat → Prop} : ∀ {n : Nat},Q.firstIdx P n = none → ∀ j,j < n → ¬ P j
  | 0,_,j,hj => by omega
  | n + 1,h,j,hj => by
    simp only [Q.firstIdx] at h
    cases hf : Q.firstIdx P n with
    | some k => rw [hf] at h;cases h
    | none =>
      rw [hf] at h
      simp only at h
      split at h
      · cases h
      · rename_i hp
        by_cases hjn : j = n
        · subst hjn;exact hp
        · exact lU hf j (by omega)
theorem xT {P : Nat → Prop} : ∀ {n i : Nat},Q.firstIdx P n = some i → i < n ∧ P i
  | 0,i,h => by cases h
  | n + 1,i,h => by
    simp only [Q.firstIdx] at h
    cases hf : Q.firstIdx P n with
    | some k =>
      rw [hf] at h
      cases h
      obtain ⟨h1,h2⟩:=xT hf
      exact ⟨by omega,h2⟩
    | none =>
      rw [hf] at h
      simp only at h
      split at h
      · rename_i hp
        cases h
        exact ⟨by omega,hp⟩
      · cases h
structure Fine (p : Pg) : Prop where
  counts : Q.Counts p
  nodes : ∀ j,j < p.fns.length → ¬ Q.badFn p j
  round : ∀ j,j < p.fns.length → ¬ Q.badRound p j
theorem xZ {p : Pg} {a b : Int} (h : Q.check p = (a,b,0)) : Fine p:=by
  unfold Q.check at h
  split at h
  · cases h
  · split at h
    · cases h
    · rename_i h1 h2
      split at h
      · rename_i f hf
        exfalso
        obtain ⟨hlt,fn,hfn,hb⟩:=xT hf
        have e : p.fns.getD f default = fn:=by rw [List.getD_eq_getElem?_getD,hfn];rfl
        rw [e] at h
        have:=congrArg (fun x : Int × Int × Nat => x.2.2) h
        exact hb this
      · rename_i hf
        split at h
        · cases h
        · rename_i hr
          exact ⟨⟨by omega,by omega,by omega,by omega⟩,lU hf,lU hr⟩
def more (p : Pg) (g l s : Int) : Pg:={ p with g:=g,l:=l,s:=s }
theorem JP {w : World} {g : Nat} {t : TypeId} {l : List Nd} (h : Blk w g t (l.flatMap ndC)) (hok : ∀ x ∈ l,x.Ok) : Nodes w w.heap.size (some ⟨g,0,none⟩) l.length l:=by
  refine ⟨⟨rfl,fun _ => ⟨_,rfl,h.lt,fun k y hy j hj => ?_⟩⟩,hok⟩
  have hadd : (⟨g,0,none⟩ : Addr).add (k * 4 + j) = ⟨g,k * 4 + j,none⟩:=l7 _ _
  rw [hadd,h.cell]
  have key : ∀ (l : List Nd) (k : Nat) (y : Nd),l[k]? = some y → (l.flatMap ndC)[k * 4 + j]? = some (ndV y j):=by
    intro l
    induction l with
    | nil => intro k y h;simp at h
    | cons x r ih =>
      intro k y h
      rw [List.flatMap_cons]
      cases k with
      | zero =>
        simp at h
        subst h
        rw [Nat.zero_mul,Nat.zero_add,List.getElem?_append_left (by simp [ndC];exact hj)]
        match j,hj with
        | 0,_ => rfl
        | 1,_ => rfl
        | 2,_ => rfl
        | 3,_ => rfl
      | succ k =>
        rw [List.getElem?_append_right (by simp [ndC];omega),show (k + 1) * 4 + j - (ndC x).length = k * 4 + j by simp [ndC];omega]
        exact ih k y (by simpa using h)
  exact key l k y hy
def tinyNd (x : Nd) : Bool:=decide (0 ≤ x.kind) && decide (x.kind ≤ 100) && decide (0 ≤ x.arg) && decide (x.arg ≤ 100) && decide (0 ≤ x.next) && decide (x.next ≤ 100) && decide (0 ≤ x.alt) && decide (x.alt ≤ 100)
theorem LI {x : Nd} (h : tinyNd x = true) : x.Ok:=by
  unfold tinyNd at h
  simp only [Bool.and_eq_true,decide_eq_true_eq] at h
  exact ⟨by unfold I64;omega,by unfold I64;omega,by unfold I64;omega,by unfold I64;omega⟩
theorem LM {w : World} {g : Nat} {t : TypeId} {l : List Nd} (h : Blk w g t (l.flatMap ndC)) (hok : l.all tinyNd = true) (n : Nat) (hn : l.length = n) (hm : n ≤ 1000) : (⟨some ⟨g,0,none⟩,n,n,l⟩ : Fn).Ok w w.heap.size:=by
  subst hn
  exact ⟨JP h fun x hx => LI (List.all_eq_true.1 hok x hx),Nat.le_refl _,(by unfold maxLen;show l.length ≤ 2 ^ 63 - 1;omega),fun h => by cases h⟩
theorem L5 {p : Pg} (hc : Q.Counts p) (hn : ∀ fn ∈ p.fns,fn.nodes.length ≠ 0 ∧ fn.nodes.length ≤ 64 ∧ fn.nodes.all (fun nd => Q.may p.g p.l p.s p.len nd fn.nodes.length) = true)
    (hup : ∀ x y,Q.calls p x y → x < y) : Q.check p = (0,0,0):=by
  refine Q.check_fine hc ?_ ?_
  · rintro j _ ⟨fn,hfn,hb⟩
    obtain ⟨h1,h2,h3⟩:=hn fn (List.mem_of_getElem? hfn)
    refine hb ?_
    rw [Q.fault_none _ _ h1 h2]
    rintro i _ ⟨nd,hnd,hm⟩
    have h4:=List.all_eq_true.1 h3 nd (List.mem_of_getElem? hnd)
    rw [hm] at h4
    cases h4
  · rintro j _ ⟨i,fn,nd,hfn,hnd,h7,k,hk,hlt,hor⟩
    have hjk:=hup j k ⟨fn,hfn,nd,List.mem_of_getElem? hnd,h7,hk⟩
    have key : ∀ x y,Q.Reach (Q.calls p) p.fns.length x y → x < y:=by
      intro x y h
      induction h with
      | one h => exact hup _ _ h
      | more h _ _ ih => exact Nat.lt_trans (hup _ _ h) ih
    rcases hor with h | h
    · omega
    · have:=key _ _ h;omega
def callsUp : Nat → List Fn → Bool
  | _,[] => true
  | k,fn :: r => fn.nodes.all (fun nd => decide (nd.kind ≠ 7) || decide ((k : Int) < nd.arg)) && callsUp (k + 1) r
theorem vO : ∀ (l : List Fn) (k : Nat),callsUp k l = true → ∀ (f : Nat) (fn : Fn) (nd : Nd),l[f]? = some fn → nd ∈ fn.nodes → nd.kind = 7 → ((k + f : Nat) : Int) < nd.arg
  | [],k,_,f,fn,nd,h,_,_ => by simp at h
  | x :: r,k,hu,f,fn,nd,h,hnd,h7 => by
    unfold callsUp at hu
    rw [Bool.and_eq_true] at hu
    cases f with
    | zero =>
      simp at h
      subst h
      have h1:=List.all_eq_true.1 hu.1 nd hnd
      simp [h7] at h1
      omega
    | succ f =>
      have h1:=vO r (k + 1) hu.2 f fn nd (by simpa using h) hnd h7
      omega
theorem JE {p : Pg} (h : callsUp 0 p.fns = true) : ∀ x y,Q.calls p x y → x < y:=by
  rintro x y ⟨fn,hfn,nd,hnd,h7,ha⟩
  have:=vO p.fns 0 h x fn nd hfn hnd h7
  omega
end Go.Proofs.YtlgaefenhfmjfaaDoor
namespace Go.Proofs.YtlgaefenhfmjfaaDoor
open Go.ChangeShapes Go.WideShapes Go.RowKit Go.Deep
structure Ws where
  A : Option Addr
  len : Nat
  cap : Nat
  z : List Nat
instance : Inhabited Ws:=⟨⟨none,0,0,[]⟩⟩
def Ws.v (x : Ws) : Value:=.slice x.A x.len x.cap
structure Ws.Ok (x : Ws) (w : World) (B : Nat) : Prop where
  row : Row wordV w B x.A x.len x.z
  u32 : ∀ y ∈ x.z,y < 4294967296
  lc : x.len ≤ x.cap
  cm : x.cap ≤ maxLen
theorem Ws.Ok.keep {x : Ws} {w w' : World} {B : Nat} (h : x.Ok w B) (hk : ∀ p : Addr,p.block < B → w'.cell? p = w.cell? p) : x.Ok w' B:=⟨h.row.keep hk,h.u32,h.lc,h.cm⟩
theorem Ws.Ok.more {x : Ws} {w : World} {B B2 : Nat} (h : x.Ok w B) (hB : B ≤ B2) : x.Ok w B2:=⟨h.row.more hB,h.u32,h.lc,h.cm⟩
theorem Ws.Ok.getD {x : Ws} {w : World} {B : Nat} (h : x.Ok w B) (k : Nat) : x.z.getD k 0 < 4294967296:=by
  rw [List.getD_eq_getElem?_getD]
  cases e : x.z[k]? with
  | none => exact (by decide : 0 < 4294967296)
  | some y => exact h.u32 y (List.mem_of_getElem? e)
theorem Ws.Ok.get {x : Ws} {w : World} {B : Nat} (h : x.Ok w B) {k : Nat} (hk : k < x.len) : ∃ ad,x.A = some ad ∧ ad.block < B ∧ x.z[k]? = some (x.z.getD k 0) ∧ x.z.getD k 0 < 4294967296 ∧ w.cell? (ad.add k) = some (.int .u32 ((x.z.getD k 0 : Nat) : Int)):=by
  obtain ⟨ad,y,e,hb,hy,hc⟩:=h.row.get hk
  have e2 : x.z.getD k 0 = y:=by rw [List.getD_eq_getElem?_getD,hy];rfl
  rw [e2]
  exact ⟨ad,e,hb,hy,h.u32 y (List.mem_of_getElem? hy),hc⟩
structure Sc where
  en : Nat
  ex : Nat
  held : Ws
  le : Nat
  lx : Nat
  live : Ws
instance : Inhabited Sc:=⟨⟨0,0,default,0,0,default⟩⟩
def scV (x : Sc) : Nat → Value
  | 0 => .int .u32 (x.en : Int)
  | 1 => .int .u32 (x.ex : Int)
  | 2 => .slice x.held.A x.held.len x.held.cap
  | 3 => .int .u32 (x.le : Int)
  | 4 => .int .u32 (x.lx : Int)
  | _ => .slice x.live.A x.live.len x.live.cap
def scC (x : Sc) : List Value:=[.int .u32 (x.en : Int),.int .u32 (x.ex : Int),.slice x.held.A x.held.len x.held.cap,.int .u32 (x.le : Int),.int .u32 (x.lx : Int),.slice x.live.A x.live.len x.live.cap]
def scA (x : Sc) : Value:=.agg #[.int .u32 (x.en : Int),.int .u32 (x.ex : Int),.slice x.held.A x.held.len x.held.cap,.int .u32 (x.le : Int),.int .u32 (x.lx : Int),.slice x.live.A x.live.len x.live.cap]
theorem LV (x : Sc) : scA x = .agg (scC x).toArray:=rfl
structure Sc.Ok (x : Sc) (w : World) (B : Nat) : Prop where
  en : x.en < 4294967296
  ex : x.ex < 4294967296
  held : x.held.Ok w B
  le : x.le < 4294967296
  lx : x.lx < 4294967296
  live : x.live.Ok w B
theorem Sc.Ok.keep {x : Sc} {w w' : World} {B : Nat} (h : x.Ok w B) (hk : ∀ p : Addr,p.block < B → w'.cell? p = w.cell? p) : x.Ok w' B:=⟨h.en,h.ex,h.held.keep hk,h.le,h.lx,h.live.keep hk⟩
theorem Sc.Ok.more {x : Sc} {w : World} {B B2 : Nat} (h : x.Ok w B) (hB : B ≤ B2) : x.Ok w B2:=⟨h.en,h.ex,h.held.more hB,h.le,h.lx,h.live.more hB⟩
theorem Sc.Ok.below {x : Sc} {w w' : World} {B : Nat} (h : x.Ok w B) (hb : Below B w w') : x.Ok w' B:=h.keep fun _ hp => hb.cell hp
theorem Ws.Ok.below {x : Ws} {w w' : World} {B : Nat} (h : x.Ok w B) (hb : Below B w w') : x.Ok w' B:=h.keep fun _ hp => hb.cell hp
theorem lB {w : World} {g : Nat} {t : TypeId} {x : Sc} (h : Blk w g t (scC x)) :
    w.cell? ⟨g,0,none⟩ = some (.int .u32 (x.en : Int)) ∧ w.cell? ⟨g,1,none⟩ = some (.int .u32 (x.ex : Int)) ∧ w.cell? ⟨g,2,none⟩ = some (.slice x.held.A x.held.len x.held.cap) ∧ w.cell? ⟨g,5,none⟩ = some (.slice x.live.A x.live.len x.live.cap) :=
  ⟨h.cell 0,h.cell 1,h.cell 2,h.cell 5⟩
theorem xX (x : Sc) : ∀ u ∈ scC x,u.oneCell' = true:=by
  intro u hu
  simp only [scC,List.mem_cons,List.not_mem_nil,or_false] at hu
  rcases hu with h | h | h | h | h | h <;> subst h <;> rfl
theorem lQ : (Tryd.prog.info? 54).map (·.size) = some 6:=by kernel_rfl
def Secs (w : World) (B : Nat) (A : Option Addr) (n : Nat) (l : List Sc) : Prop:=Recs 6 scV w B A n l ∧ ∀ x ∈ l,x.Ok w B
theorem Secs.keep {w w' : World} {B : Nat} {A : Option Addr} {n : Nat} {l : List Sc} (h : Secs w B A n l) (hk : ∀ p : Addr,p.block < B → w'.cell? p = w.cell? p) : Secs w' B A n l:=⟨h.1.keep hk,fun x hx => (h.2 x hx).keep hk⟩
theorem Secs.below {w w' : World} {B : Nat} {A : Option Addr} {n : Nat} {l : List Sc} (h : Secs w B A n l) (hb : Below B w w') : Secs w' B A n l:=h.keep fun _ hp => hb.cell hp
theorem Secs.more {w : World} {B B2 : Nat} {A : Option Addr} {n : Nat} {l : List Sc} (h : Secs w B A n l) (hB : B ≤ B2) : Secs w B2 A n l:=⟨h.1.more hB,fun x hx => (h.2 x hx).more hB⟩
theorem Secs.len_ {w : World} {B : Nat} {A : Option Addr} {n : Nat} {l : List Sc} (h : Secs w B A n l) : l.length = n:=h.1.len
theorem Secs.get {w : World} {B : Nat} {A : Option Addr} {n : Nat} {l : List Sc} (h : Secs w B A n l) {k : Nat} (hk : k < n) :
    ∃ ad x,A = some ad ∧ ad.block < B ∧ l[k]? = some x ∧ x.Ok w B ∧ w.cell? (ad.add (k * 6)) = some (.int .u32 (x.en : Int)) ∧ w.cell? ⟨(ad.add (k * 6)).block,(ad.add (k * 6)).off + 1,none⟩ = some (.int .u32 (x.ex : Int)) ∧
      w.cell? ⟨(ad.add (k * 6)).block,(ad.add (k * 6)).off + 2,none⟩ = some (.slice x.held.A x.held.len x.held.cap) ∧ w.cell? ⟨(ad.add (k * 6)).block,(ad.add (k * 6)).off + 5,none⟩ = some (.slice x.live.A x.live.len x.live.cap):=by
  obtain ⟨ad,x,e,hb,hx,hc0,hc⟩:=h.1.field hk
  exact ⟨ad,x,e,hb,hx,h.2 x (List.mem_of_getElem? hx),hc0 (by omega),hc 1 (by omega) (by omega),hc 2 (by omega) (by omega),hc 5 (by omega) (by omega)⟩
section
variable {H : Type} {enc : TypeId × Value → H} {P : Program} {w : World} {base : Nat} {held : Bool}
theorem yG {t e : TypeId} {v : Value} {fuel : Nat} {y : DataW H × List MemPlace} (ht : P.underlying t = some (.slice e)) (he : P.underlying e = some (.int .u32)) (hc : P.cellsOf e = 1)
    (h : DataW.trod enc P w base (fun _ => true) held fuel t [v] = some y) : ∃ x : Ws,v = x.v ∧ x.Ok w w.heap.size:=by
  rcases open_ints ht he hc h with ⟨hcs,_⟩ | ⟨x,l,c,zs,hcs,_,hl,hm,hz,_,hcell,hwz⟩
  · simp at hcs
    exact ⟨⟨none,0,0,[]⟩,hcs,Row.none_ rfl rfl,by simp,Nat.le_refl _,by simp [maxLen]⟩
  · simp at hcs
    have hrow : IsRow .u32 w (some x) l c zs:=.inr ⟨_,rfl,hl,hm,by simpa using hz,hcell,hwz⟩
    obtain ⟨bs,g1,g2,_,g4,g5⟩:=hrow.words
    exact ⟨⟨some x,l,c,bs⟩,hcs,g1,g2,g4,g5⟩
theorem y5 {t e t2 : TypeId} {f0 f1 f2 f3 f4 f5 : Field} {a : Option Addr} {len cap : Nat} {d : DataW H} {ps : List MemPlace} (ht : P.underlying t = some (.slice e)) (he : P.underlying e = some (.struct #[f0,f1,f2,f3,f4,f5]))
    (hone : oneCellFields P #[f0,f1,f2,f3,f4,f5] = true) (hC : P.cellsOf e = 6) (h0 : P.underlying f0.type = some (.int .u32)) (h1 : P.underlying f1.type = some (.int .u32)) (h2 : P.underlying f2.type = some (.slice t2)) (h22 : P.underlying t2 = some (.int .u32)) (hc2 : P.cellsOf t2 = 1)
    (h3 : P.underlying f3.type = some (.int .u32)) (h4 : P.underlying f4.type = some (.int .u32)) (h5 : P.underlying f5.type = some (.slice t2))
    (h : DataW.Trod enc P w base (fun _ => true) held t (.slice a len cap) d ps) :
    ∃ l : List Sc,Secs w w.heap.size a len l ∧ len ≤ cap ∧ cap ≤ maxLen:=by
  obtain ⟨hl,hm,hnil,hsome,hall⟩:=yT ht he hone hC h
  rcases Nat.eq_zero_or_pos len with h00 | h00
  · exact ⟨[],⟨⟨h00.symm ▸ rfl,fun h => by omega⟩,by simp⟩,hl,hm⟩
  · obtain ⟨ad,rfl⟩:=hsome h00
    obtain ⟨V,hV⟩:=hall ad rfl
    have each : ∀ i,i < len → ∃ x : Sc,x.Ok w w.heap.size ∧ ∀ j,j < 6 → w.cell? (ad.add (i * 6 + j)) = some (scV x j):=by
      intro i hi
      obtain ⟨c0,_,_,g0⟩:=hV i hi 0 f0 rfl
      obtain ⟨c1,_,_,g1⟩:=hV i hi 1 f1 rfl
      obtain ⟨c2,_,_,g2⟩:=hV i hi 2 f2 rfl
      obtain ⟨c3,_,_,g3⟩:=hV i hi 3 f3 rfl
      obtain ⟨c4,_,_,g4⟩:=hV i hi 4 f4 rfl
      obtain ⟨c5,_,_,g5⟩:=hV i hi 5 f5 rfl
      obtain ⟨n0,e0,w0⟩:=jU h0 g0
      obtain ⟨n1,e1,w1⟩:=jU h1 g1
      obtain ⟨x2,e2,w2⟩:=yG h2 h22 hc2 g2
      obtain ⟨n3,e3,w3⟩:=jU h3 g3
      obtain ⟨n4,e4,w4⟩:=jU h4 g4
      obtain ⟨x5,e5,w5⟩:=yG h5 h22 hc2 g5
      obtain ⟨m0,rfl,u0⟩:=xY w0
      obtain ⟨m1,rfl,u1⟩:=xY w1
      obtain ⟨m3,rfl,u3⟩:=xY w3
      obtain ⟨m4,rfl,u4⟩:=xY w4
      refine ⟨⟨m0,m1,x2,m3,m4,x5⟩,⟨u0,u1,w2,u3,u4,w5⟩,fun j hj => ?_⟩
      match j,hj with
      | 0,_ => rw [show scV _ 0 = Value.int .u32 (m0 : Int) from rfl,← e0];exact c0
      | 1,_ => rw [show scV _ 1 = Value.int .u32 (m1 : Int) from rfl,← e1];exact c1
      | 2,_ => rw [show scV _ 2 = x2.v from rfl,← e2];exact c2
      | 3,_ => rw [show scV _ 3 = Value.int .u32 (m3 : Int) from rfl,← e3];exact c3
      | 4,_ => rw [show scV _ 4 = Value.int .u32 (m4 : Int) from rfl,← e4];exact c4
      | 5,_ => rw [show scV _ 5 = x5.v from rfl,← e5];exact c5
    obtain ⟨X,hX⟩:=choose_lt each
    refine ⟨(List.range len).map X,⟨⟨by simp,fun _ => ⟨ad,rfl,?_,fun k x hx j hj => ?_⟩⟩,fun x hx => ?_⟩,hl,hm⟩
    · have:=lJ ((hX 0 h00).2 0 (by omega))
      rwa [add_block] at this
    · have hk : k < len:=by have:=(List.getElem?_eq_some_iff.1 hx).1;simpa using this
      rw [List.getElem?_map,List.getElem?_range hk] at hx
      cases hx
      exact (hX k hk).2 j hj
    · obtain ⟨i,hi,rfl⟩:=List.mem_map.1 hx
      exact (hX i (List.mem_range.1 hi)).1
end
end Go.Proofs.YtlgaefenhfmjfaaDoor
namespace Go.Proofs.YtlgaefenhfmjfaaDoor
open Go.RowKit
def names (kind : Int) (id : Nat) (nd : Nd) : Bool:=decide (nd.kind = kind) && decide (nd.arg = (id : Int))
def namedTo (l : List Nd) (kind : Int) (m : Nat) : List Nat:=(List.range m).filter fun id => l.any (names kind id)
def namedL (l : List Nd) (kind : Int) : List Nat:=namedTo l kind 32
theorem yU {l : List Nd} {kind : Int} {y : Nat} : y ∈ namedL l kind ↔ y < 32 ∧ ∃ nd ∈ l,nd.kind = kind ∧ nd.arg = (y : Int):=by
  unfold namedL namedTo names
  simp [List.mem_filter,List.any_eq_true]
def cnt (P : Nat → Bool) : Nat → Nat
  | 0 => 0
  | n + 1 => cnt P n + (if P n then 1 else 0)
theorem L4 (P : Nat → Bool) : ∀ n,cnt P n ≤ n
  | 0 => Nat.le_refl _
  | n + 1 => by have:=L4 P n;simp only [cnt];split <;> omega
theorem cnt_mono {P P' : Nat → Bool} : ∀ n,(∀ g,g < n → P g = true → P' g = true) → cnt P n ≤ cnt P' n
  | 0,_ => Nat.le_refl _
  | n + 1,h => by
    have h1:=cnt_mono n fun g hg => h g (by omega)
    have h2:=h n (by omega)
    simp only [cnt]
    by_cases hp : P n = true
    · rw [if_pos hp,if_pos (h2 hp)];omega
    · rw [if_neg hp];omega
theorem cnt_lt {P P' : Nat → Bool} {f : Nat} : ∀ n,(∀ g,g < n → P g = true → P' g = true) → f < n → P f = false → P' f = true → cnt P n < cnt P' n
  | 0,_,hf,_,_ => by omega
  | n + 1,h,hf,h1,h2 => by
    by_cases hfn : f = n
    · subst hfn
      have h3:=cnt_mono f fun g hg => h g (by omega)
      simp only [cnt]
      rw [if_neg (by rw [h1];decide),if_pos h2];omega
    · have h3:=cnt_lt (f:=f) n (fun g hg => h g (by omega)) (by omega) h1 h2
      have h4:=h n (by omega)
      simp only [cnt]
      by_cases hp : P n = true
      · rw [if_pos hp,if_pos (h4 hp)];omega
      · rw [if_neg hp];omega
theorem vM {P : Nat → Bool} : ∀ n,cnt P n < n → ∃ g,g < n ∧ P g = false
  | 0,h => by omega
  | n + 1,h => by
    by_cases hp : P n = true
    · simp only [cnt] at h
      rw [if_pos hp] at h
      obtain ⟨g,hg,h1⟩:=vM (P:=P) n (by omega)
      exact ⟨g,by omega,h1⟩
    · exact ⟨n,by omega,by simpa using hp⟩
noncomputable def dec (P : Prop) : Bool:=@decide P (Classical.propDecidable P)
theorem vJ {P : Prop} : dec P = true ↔ P:=by unfold dec;exact @decide_eq_true_iff P (Classical.propDecidable P)
theorem yY {P : Prop} : dec P = false ↔ ¬ P:=by unfold dec;exact @decide_eq_false_iff_not P (Classical.propDecidable P)
theorem qS {R : Nat → Nat → Prop} {n : Nat} (hac : ∀ x,x < n → ¬ Q.Reach R n x x) : ∀ (k : Nat) (U : Nat → Bool),cnt U n ≤ k → (∀ g,U g = true → g < n) → (∃ f,U f = true) → ∃ f,U f = true ∧ ∀ y,R f y → U y = false
  | 0,U,hk,hU,⟨f,hf⟩ => by
    exfalso
    have h1 : cnt (fun _ => false) n < cnt U n:=cnt_lt (f:=f) n (fun g _ h => by cases h) (hU f hf) rfl hf
    omega
  | k + 1,U,hk,hU,⟨f,hf⟩ => by
    by_cases hno : ∀ y,R f y → U y = false
    · exact ⟨f,hf,hno⟩
    · have hno2 : ∃ y,R f y ∧ U y = true:=by
        refine Classical.byContradiction fun h => hno fun y hy => ?_
        cases hu : U y
        · rfl
        · exact absurd ⟨y,hy,hu⟩ h
      obtain ⟨y,hy,hyu⟩:=hno2
      have hlt : cnt (fun g => U g && dec (Q.Reach R n f g)) n < cnt U n :=
        cnt_lt (f:=f) n (fun g _ h => by rw [Bool.and_eq_true] at h;exact h.1) (hU f hf) (by simp only [hf,Bool.true_and];exact yY.2 (hac f (hU f hf))) hf
      obtain ⟨g,hg,hgno⟩:=qS hac k (fun g => U g && dec (Q.Reach R n f g)) (by omega) (fun g h => hU g (by rw [Bool.and_eq_true] at h;exact h.1)) ⟨y,by simp only [hyu,Bool.true_and];exact vJ.2 (.one hy)⟩
      rw [Bool.and_eq_true] at hg
      obtain ⟨hgu,hfg⟩:=hg
      refine ⟨g,hgu,fun z hz => ?_⟩
      have h1:=hgno z hz
      cases hzu : U z
      · rfl
      · simp only [hzu,Bool.true_and] at h1
        exact absurd ((vJ.1 hfg).trans (hU g hgu) (.one hz)) (yY.1 h1)
structure OrdInv (R : Nat → Nat → Prop) (len : Nat) (o0 o : Nat → Bool) (f : Nat) : Prop where
  mono : ∀ g,o0 g = true → o g = true
  rest : ∀ g,f ≤ g → o g = o0 g
  done : ∀ g,g < f → (∀ y,R g y → o0 y = true) → o g = true
theorem OrdInv.start (R : Nat → Nat → Prop) (len : Nat) (o : Nat → Bool) : OrdInv R len o o 0:=⟨fun _ h => h,fun _ _ => rfl,fun g h => by omega⟩
theorem OrdInv.skip {R : Nat → Nat → Prop} {len : Nat} {o0 o : Nat → Bool} {f : Nat} (h : OrdInv R len o0 o f) (hn : ¬ (o f = false ∧ ∀ y,R f y → o y = true)) : OrdInv R len o0 o (f + 1):=by
  refine ⟨h.mono,fun g hg => h.rest g (by omega),fun g hg hc => ?_⟩
  by_cases hgf : g = f
  · subst hgf
    cases ho : o g
    · exact absurd ⟨ho,fun y hy => h.mono y (hc y hy)⟩ hn
    · rfl
  · exact h.done g (by omega) hc
theorem OrdInv.take {R : Nat → Nat → Prop} {len : Nat} {o0 o o' : Nat → Bool} {f : Nat} (h : OrdInv R len o0 o f) (h1 : o' f = true) (h2 : ∀ g,g ≠ f → o' g = o g) : OrdInv R len o0 o' (f + 1):=by
  refine ⟨fun g hg => ?_,fun g hg => ?_,fun g hg hc => ?_⟩
  · by_cases hgf : g = f
    · subst hgf;exact h1
    · rw [h2 g hgf];exact h.mono g hg
  · rw [h2 g (by omega)];exact h.rest g (by omega)
  · by_cases hgf : g = f
    · subst hgf;exact h1
    · rw [h2 g hgf];exact h.done g (by omega) hc
theorem qV {p : Pg} (h : Fine p) (hl : p.fns.length = p.len) {x y : Nat} (hc : Q.calls p x y) : y < p.fns.length:=by
  obtain ⟨f,hf,nd,hnd,h7,ha⟩:=hc
  have:=(zA h.nodes f (List.mem_of_getElem? hf) nd hnd h7).2
  omega
theorem zJ {p : Pg} (h : Fine p) (hl : p.fns.length = p.len) : ∀ x,x < p.fns.length → ¬ Q.Reach (Q.calls p) p.fns.length x x:=by
  intro x hx hr
  refine h.round x hx ?_
  have key : ∀ y,Q.calls p x y → (y = x ∨ Q.Reach (Q.calls p) p.fns.length y x) → Q.badRound p x:=by
    intro y hc hor
    have hy:=qV h hl hc
    obtain ⟨f,hf,nd,hnd,h7,ha⟩:=hc
    obtain ⟨i,hi⟩:=List.mem_iff_getElem?.1 hnd
    exact ⟨i,f,nd,hf,hi,h7,y,ha,hy,hor⟩
  cases hr with
  | one hc => exact key x hc (.inl rfl)
  | more hc hj hr => exact key _ hc (.inr hr)
def Free (p : Pg) (out : List Nat) (f : Nat) : Prop:=f ∉ out ∧ ∀ y,Q.calls p f y → y ∈ out
def IsOrd (p : Pg) (l : List Nat) : Prop:=∀ k f,l[k]? = some f → f < p.fns.length ∧ Free p (l.take k) f ∧ ∀ g,g < f → ¬ Free p (l.take k) g
theorem LD (p : Pg) : IsOrd p []:=fun k f h => by simp at h
theorem JM {p : Pg} {l : List Nat} {f : Nat} (h : IsOrd p l) (hf : f < p.fns.length) (h1 : Free p l f) (h2 : ∀ g,g < f → ¬ Free p l g) : IsOrd p (l ++ [f]):=by
  intro k x hx
  have hk:=(List.getElem?_eq_some_iff.1 hx).1
  rw [List.length_append,List.length_singleton] at hk
  by_cases hkl : k < l.length
  · rw [List.getElem?_append_left hkl] at hx
    rw [List.take_append_of_le_length (by omega)]
    exact h k x hx
  · have hke : k = l.length:=by omega
    subst hke
    rw [List.getElem?_append_right (Nat.le_refl _),Nat.sub_self] at hx
    have : x = f:=by simpa using hx.symm
    subst this
    rw [List.take_left' rfl]
    exact ⟨hf,h1,h2⟩
theorem yS {p : Pg} {l : List Nat} (h : IsOrd p l) : l.Nodup:=by
  refine List.pairwise_iff_getElem.2 fun i j hi hj hij e => ?_
  have hy : l[j]? = some l[j]:=List.getElem?_eq_getElem hj
  refine (h j _ hy).2.1.1 ?_
  have : (l.take j)[i]? = some l[j]:=by rw [List.getElem?_take,if_pos hij,List.getElem?_eq_getElem hi,e]
  exact List.mem_of_getElem? this
theorem uJ {P P' : Nat → Bool} {x : Nat} (h : ∀ g,g ≠ x → P' g = P g) : ∀ n,cnt P' n ≤ cnt P n + (if x < n then 1 else 0)
  | 0 => by simp [cnt]
  | n + 1 => by
    have ih:=uJ h n
    simp only [cnt]
    by_cases hx : n = x
    · subst hx
      rw [if_neg (by omega)] at ih
      rw [if_pos (show n < n + 1 by omega)]
      split <;> split <;> omega
    · rw [h n hx]
      by_cases hxn : x < n
      · rw [if_pos hxn] at ih;rw [if_pos (show x < n + 1 by omega)];omega
      · rw [if_neg hxn] at ih;rw [if_neg (show ¬ x < n + 1 by omega)];omega
theorem uK (n : Nat) : ∀ l : List Nat,cnt (fun g => decide (g ∈ l)) n ≤ l.length
  | [] => by
    have : ∀ n,cnt (fun g => decide (g ∈ ([] : List Nat))) n = 0:=by
      intro n
      induction n with
      | zero => rfl
      | succ n ih => simp only [cnt,ih];simp
    rw [this];exact Nat.zero_le _
  | x :: l => by
    have ih:=uK n l
    have h1:=uJ (P:=fun g => decide (g ∈ l)) (P':=fun g => decide (g ∈ x :: l)) (x:=x) (fun g hg => by simp [hg]) n
    rw [List.length_cons]
    split at h1 <;> omega
theorem JN {p : Pg} {l : List Nat} (hf : Fine p) (hlen : p.fns.length = p.len) (hlt : l.length < p.fns.length) : ∃ f,f < p.fns.length ∧ Free p l f:=by
  have hne : ∃ g,g < p.fns.length ∧ g ∉ l:=by
    obtain ⟨g,hg,hgl⟩:=vM (P:=fun g => decide (g ∈ l)) p.fns.length (by have:=uK p.fns.length l;omega)
    exact ⟨g,hg,by simpa using hgl⟩
  obtain ⟨g,hg,hgl⟩:=hne
  obtain ⟨f,hff,hno⟩:=qS (zJ hf hlen) p.fns.length (fun g => decide (g < p.fns.length) && !decide (g ∈ l)) (L4 _ _) (fun g h => by rw [Bool.and_eq_true] at h;simpa using h.1) ⟨g,by simp [hg,hgl]⟩
  rw [Bool.and_eq_true] at hff
  refine ⟨f,by simpa using hff.1,by simpa using hff.2,fun y hy => ?_⟩
  refine Classical.byContradiction fun hyl => ?_
  have h1:=hno y hy
  simp [qV hf hlen hy,hyl] at h1
end Go.Proofs.YtlgaefenhfmjfaaDoor
namespace Go.Proofs.YtlgaefenhfmjfaaDoor.S
def has (m : Nat) (id : Int) : Bool:=decide (0 ≤ id ∧ id ≤ 31) && m.testBit id.toNat
theorem LL (m : Nat) (id : Int) (h : id < 0 ∨ 31 < id) : has m id = false:=by
  unfold has;rw [decide_eq_false (by omega)];rfl
theorem has_in (m : Nat) (i : Nat) (h : i ≤ 31) : has m (i : Int) = m.testBit i:=by
  unfold has;rw [decide_eq_true (by omega)];simp
def ids (m : Nat) (n : Nat) : List Nat:=(List.range n).filter fun i => m.testBit i
theorem vF (m n : Nat) : ids m (n + 1) = ids m n ++ (if m.testBit n then [n] else []):=by
  unfold ids
  rw [List.range_succ,List.filter_append]
  by_cases h : m.testBit n <;> simp [h]
theorem ids_len (m n : Nat) : (ids m n).length ≤ n:=by
  have:=List.length_filter_le (fun i => m.testBit i) (List.range n)
  simpa [ids] using this
theorem ids_mem (m n x : Nat) : x ∈ ids m n ↔ x < n ∧ m.testBit x = true:=by simp [ids]
def mask (l : List Nat) : Nat:=(l.map (2 ^ ·)).sum
theorem mask_snoc (l : List Nat) (x : Nat) : mask (l ++ [x]) = mask l + 2 ^ x:=by simp [mask]
def within (a b n : Nat) : Bool:=(List.range n).all fun i => !a.testBit i || b.testBit i
def bad (l : List Int) (size : Int) (i : Nat) : Nat :=
  let x:=l.getD i 0
  if x < 0 ∨ size ≤ x ∨ 31 < x then 1 else if 0 < i ∧ x ≤ l.getD (i - 1) 0 then 5 else 0
def first (l : List Int) (size : Int) : Nat → Nat
  | 0 => 0
  | n + 1 => if first l size n = 0 then bad l size n else first l size n
theorem first_zero (l : List Int) (size : Int) : ∀ n,first l size n = 0 → ∀ i,i < n → bad l size i = 0
  | 0,_,i,hi => by omega
  | n + 1,h,i,hi => by
    simp only [first] at h
    by_cases h0 : first l size n = 0
    · rw [if_pos h0] at h
      by_cases e : i = n
      · subst e;exact h
      · exact first_zero l size n h0 i (by omega)
    · rw [if_neg h0] at h;exact absurd h h0
def count (m : Nat) : Nat:=(ids m 32).length
def least (m : Nat) : Int:=match ids m 32 with | [] => -1 | x :: _ => (x : Int)
theorem bit_high (m i : Nat) (hm : m < 4294967296) (hi : 32 ≤ i) : m.testBit i = false :=
  Nat.testBit_lt_two_pow (Nat.lt_of_lt_of_le hm ((Nat.pow_le_pow_right (by decide) hi : 2 ^ 32 ≤ 2 ^ i)))
theorem within_iff (a b : Nat) : within a b 32 = true ↔ ∀ i,i < 32 → a.testBit i = true → b.testBit i = true:=by
  simp only [within,List.all_eq_true,List.mem_range]
  constructor
  · intro h i hi ha
    have:=h i hi
    rw [ha] at this;simpa using this
  · intro h i hi
    cases ha : a.testBit i
    · rfl
    · simp [h i hi ha]
theorem within_trans (a b c : Nat) (h1 : within a b 32 = true) (h2 : within b c 32 = true) : within a c 32 = true:=by
  rw [within_iff] at *
  exact fun i hi h => h2 i hi (h1 i hi h)
theorem eq_of_bits (a b : Nat) (ha : a < 4294967296) (hb : b < 4294967296) (h : ∀ i,i < 32 → a.testBit i = b.testBit i) : a = b:=by
  apply Nat.eq_of_testBit_eq
  intro i
  rcases Nat.lt_or_ge i 32 with hi | hi
  · exact h i hi
  · rw [bit_high a i ha hi,bit_high b i hb hi]
def all (n : Int) : Nat:=if n ≤ 0 then 0 else if 32 ≤ n then 4294967295 else 2 ^ n.toNat - 1
def one (id : Int) : Nat:=if 0 ≤ id ∧ id ≤ 31 then 2 ^ id.toNat else 0
theorem one_nat (i : Nat) (h : i ≤ 31) : one (i : Int) = 2 ^ i:=by unfold one;rw [if_pos (by omega),Int.toNat_natCast]
theorem one_out (id : Int) (h : id < 0 ∨ 31 < id) : one id = 0:=by unfold one;rw [if_neg (by omega)]
theorem one_lt (id : Int) : one id < 4294967296:=by
  unfold one
  split
  · have : 2 ^ id.toNat ≤ 2 ^ 31:=Nat.pow_le_pow_right (by decide) (by omega)
    omega
  · decide
end Go.Proofs.YtlgaefenhfmjfaaDoor.S
namespace Go.Proofs.YtlgaefenhfmjfaaDoor
open Go.RowKit
theorem zT (k : Nat) (h : k ≤ 31) : 2 ^ k ≤ 2147483648:=Nat.pow_le_pow_right (by decide) h
def Edge (l : List Nd) (j i : Nat) : Prop:=i < l.length ∧ ∃ nd,l[j]? = some nd ∧ (i : Int) ∈ Q.succ nd
def Behind (l : List Nd) (from_ : List Int) (i : Nat) : Prop:=∃ j : Nat,(j : Int) ∈ from_ ∧ j < l.length ∧ Q.Reach (Edge l) l.length j i
def Start (from_ : List Int) (o : Nat → Bool) (j : Nat) : Prop:=(j : Int) ∈ from_ ∨ o j = true
def Closed (l : List Nd) (from_ : List Int) (o : Nat → Bool) : Prop:=∀ j i,j < l.length → Start from_ o j → Edge l j i → o i = true
def Sound (l : List Nd) (from_ : List Int) (o : Nat → Bool) : Prop:=∀ i,o i = true → i < l.length ∧ Behind l from_ i
theorem vR {l : List Nd} {from_ : List Int} {o : Nat → Bool} (hs : Sound l from_ o) {j i : Nat} (hj : j < l.length) (h : Start from_ o j) (he : Edge l j i) : i < l.length ∧ Behind l from_ i:=by
  refine ⟨he.1,?_⟩
  rcases h with h | h
  · exact ⟨j,h,hj,.one he⟩
  · obtain ⟨_,k,hk,hkl,hr⟩:=hs j h
    exact ⟨k,hk,hkl,hr.trans hj (.one he)⟩
structure RoundInv (l : List Nd) (from_ : List Int) (o0 o : Nat → Bool) (i : Nat) : Prop where
  mono : ∀ g,o0 g = true → o g = true
  sound : Sound l from_ o
  done : ∀ j y,j < i → Start from_ o0 j → Edge l j y → o y = true
  keep : Closed l from_ o0 → ∀ g,o g = true → o0 g = true
theorem RoundInv.start {l : List Nd} {from_ : List Int} {o : Nat → Bool} (h : Sound l from_ o) : RoundInv l from_ o o 0:=⟨fun _ h => h,h,fun j y hj => by omega,fun _ _ h => h⟩
theorem RoundInv.skip {l : List Nd} {from_ : List Int} {o0 o : Nat → Bool} {i : Nat} (h : RoundInv l from_ o0 o i) (hn : ¬ Start from_ o i) : RoundInv l from_ o0 o (i + 1):=by
  refine ⟨h.mono,h.sound,fun j y hj hs he => ?_,h.keep⟩
  by_cases hji : j = i
  · subst hji
    refine absurd ?_ hn
    rcases hs with hs | hs
    · exact .inl hs
    · exact .inr (h.mono _ hs)
  · exact h.done j y (by omega) hs he
structure StepInv (l : List Nd) (o o' : Nat → Bool) (s : List Int) (k : Nat) : Prop where
  mono : ∀ g,o g = true → o' g = true
  new : ∀ g,o' g = true → o g = true ∨ (g < l.length ∧ ∃ j,j < k ∧ s[j]? = some (g : Int))
  done : ∀ (j g : Nat),j < k → s[j]? = some (g : Int) → g < l.length → o' g = true
theorem StepInv.start (l : List Nd) (o : Nat → Bool) (s : List Int) : StepInv l o o s 0:=⟨fun _ h => h,fun _ h => .inl h,fun j g hj => by omega⟩
theorem StepInv.skip {l : List Nd} {o o' : Nat → Bool} {s : List Int} {k : Nat} {y : Int} (h : StepInv l o o' s k) (hy : s[k]? = some y) (hn : ¬ (0 ≤ y ∧ y < (l.length : Int))) : StepInv l o o' s (k + 1):=by
  refine ⟨h.mono,fun g hg => ?_,fun j g hj hjs hg => ?_⟩
  · rcases h.new g hg with h1 | ⟨h1,j,hj,h2⟩
    · exact .inl h1
    · exact .inr ⟨h1,j,by omega,h2⟩
  · by_cases hjk : j = k
    · subst hjk;rw [hy] at hjs;cases hjs;exact absurd ⟨by omega,by omega⟩ hn
    · exact h.done j g (by omega) hjs hg
theorem StepInv.set {l : List Nd} {o o' : Nat → Bool} {s : List Int} {k y : Nat} (h : StepInv l o o' s k) (hy : s[k]? = some (y : Int)) (hlt : y < l.length) : StepInv l o (fun g => if g = y then true else o' g) s (k + 1):=by
  refine ⟨fun g hg => ?_,fun g hg => ?_,fun j g hj hjs hg => ?_⟩
  · split
    · rfl
    · exact h.mono g hg
  · by_cases hgy : g = y
    · subst hgy;exact .inr ⟨hlt,k,by omega,hy⟩
    · simp only [if_neg hgy] at hg
      rcases h.new g hg with h1 | ⟨h1,j,hj,h2⟩
      · exact .inl h1
      · exact .inr ⟨h1,j,by omega,h2⟩
  · by_cases hgy : g = y
    · rw [if_pos hgy]
    · rw [if_neg hgy]
      by_cases hjk : j = k
      · subst hjk;rw [hy] at hjs;injection hjs with e;omega
      · exact h.done j g (by omega) hjs hg
theorem RoundInv.step {l : List Nd} {from_ : List Int} {o0 o o' : Nat → Bool} {i : Nat} {nd : Nd} (h : RoundInv l from_ o0 o i) (hi : l[i]? = some nd) (hs : Start from_ o i) (hst : StepInv l o o' (Q.succ nd) (Q.succ nd).length) : RoundInv l from_ o0 o' (i + 1):=by
  have hil : i < l.length:=(List.getElem?_eq_some_iff.1 hi).1
  have edge : ∀ g,g < l.length → (∃ j,j < (Q.succ nd).length ∧ (Q.succ nd)[j]? = some (g : Int)) → Edge l i g:=by
    rintro g hg ⟨j,_,hj⟩
    exact ⟨hg,nd,hi,List.mem_of_getElem? hj⟩
  refine ⟨fun g hg => hst.mono g (h.mono g hg),fun g hg => ?_,fun j y hj hsj he => ?_,fun hc g hg => ?_⟩
  · rcases hst.new g hg with h1 | ⟨h1,h2⟩
    · exact h.sound g h1
    · exact vR h.sound hil hs (edge g h1 h2)
  · by_cases hji : j = i
    · subst hji
      obtain ⟨hyl,nd',hnd',hmem⟩:=he
      rw [hi] at hnd';cases hnd'
      obtain ⟨k,hk⟩:=List.mem_iff_getElem?.1 hmem
      exact hst.done k y (List.getElem?_eq_some_iff.1 hk).1 hk hyl
    · exact hst.mono y (h.done j y (by omega) hsj he)
  · rcases hst.new g hg with h1 | ⟨h1,h2⟩
    · exact h.keep hc g h1
    · have hs0 : Start from_ o0 i:=by
        rcases hs with hs | hs
        · exact .inl hs
        · exact .inr (h.keep hc i hs)
      exact hc i g hil hs0 (edge g h1 h2)
def lenV : Value → Nat
  | .slice _ n _ => n
  | _ => 0
def NextFrom (p : Pg) (l : List Nat) (k : Nat) (nx : Int) : Prop :=
  (nx = -1 ∧ ∀ g,k ≤ g → g < p.len → ¬ Free p l g) ∨ ∃ m : Nat,nx = (m : Int) ∧ k ≤ m ∧ m < p.len ∧ Free p l m ∧ ∀ g,k ≤ g → g < m → ¬ Free p l g
theorem NextFrom.skip {p : Pg} {l : List Nat} {k : Nat} {nx : Int} (h : NextFrom p l (k + 1) nx) (hn : ¬ Free p l k) : NextFrom p l k nx:=by
  rcases h with ⟨h1,h2⟩ | ⟨m,h1,h2,h3,h4,h5⟩
  · refine .inl ⟨h1,fun g hg hl => ?_⟩
    by_cases hgk : g = k
    · subst hgk;exact hn
    · exact h2 g (by omega) hl
  · refine .inr ⟨m,h1,by omega,h3,h4,fun g hg hl => ?_⟩
    by_cases hgk : g = k
    · subst hgk;exact hn
    · exact h5 g (by omega) hl
theorem NextFrom.take {p : Pg} {l : List Nat} {k : Nat} (hk : k < p.len) (hf : Free p l k) : NextFrom p l k (k : Int):=.inr ⟨k,rfl,Nat.le_refl _,hk,hf,fun g h1 h2 => by omega⟩
def CallIn (p : Pg) (x y : Nat) : Prop:=Q.calls p x y ∧ y < p.len
def Comes (p : Pg) (from_ : Nat → Prop) (f : Nat) : Prop:=f < p.len ∧ (from_ f ∨ ∃ j,from_ j ∧ j < p.len ∧ Q.Reach (CallIn p) p.len j f)
def Shut (p : Pg) (o : Nat → Bool) : Prop:=∀ j i,j < p.len → o j = true → CallIn p j i → o i = true
def Right (p : Pg) (from_ : Nat → Prop) (o : Nat → Bool) : Prop:=∀ i,o i = true → Comes p from_ i
theorem yF {p : Pg} {from_ : Nat → Prop} {j i : Nat} (h : Comes p from_ j) (hc : CallIn p j i) : Comes p from_ i:=by
  refine ⟨hc.2,.inr ?_⟩
  rcases h with ⟨hj,h | ⟨k,hk,hkl,hr⟩⟩
  · exact ⟨j,h,hj,.one hc⟩
  · exact ⟨k,hk,hkl,hr.trans hj (.one hc)⟩
structure CallInv (p : Pg) (from_ : Nat → Prop) (o0 o : Nat → Bool) (i : Nat) : Prop where
  mono : ∀ g,o0 g = true → o g = true
  right : Right p from_ o
  done : ∀ j y,j < i → o0 j = true → CallIn p j y → o y = true
  keep : Shut p o0 → ∀ g,o g = true → o0 g = true
theorem CallInv.start {p : Pg} {from_ : Nat → Prop} {o : Nat → Bool} (h : Right p from_ o) : CallInv p from_ o o 0:=⟨fun _ h => h,h,fun j y hj => by omega,fun _ _ h => h⟩
structure NameInv (n : Nat) (o o' : Nat → Bool) (f : Nat) (cs : List Nat) (k : Nat) : Prop where
  mono : ∀ g,o g = true → o' g = true
  self : o' f = true → o f = true
  new : ∀ g,o' g = true → o g = true ∨ (o f = true ∧ g < n ∧ g ∈ cs)
  done : ∀ (j g : Nat),j < k → cs[j]? = some g → g < n → o f = true → o' g = true
theorem NameInv.start (n : Nat) (o : Nat → Bool) (f : Nat) (cs : List Nat) : NameInv n o o f cs 0:=⟨fun _ h => h,fun h => h,fun _ h => .inl h,fun j g hj => by omega⟩
theorem NameInv.skip {n : Nat} {o o' : Nat → Bool} {f : Nat} {cs : List Nat} {k y : Nat} (h : NameInv n o o' f cs k) (hy : cs[k]? = some y) (hn : ¬ (o' f = true ∧ y < n)) : NameInv n o o' f cs (k + 1):=by
  refine ⟨h.mono,h.self,h.new,fun j g hj hjs hg hof => ?_⟩
  by_cases hjk : j = k
  · subst hjk;rw [hy] at hjs;cases hjs;exact absurd ⟨h.mono f hof,hg⟩ hn
  · exact h.done j g (by omega) hjs hg hof
theorem NameInv.set {n : Nat} {o o' : Nat → Bool} {f : Nat} {cs : List Nat} {k y : Nat} (h : NameInv n o o' f cs k) (hy : cs[k]? = some y) (hf : o' f = true) (hlt : y < n) : NameInv n o (fun g => if g = y then true else o' g) f cs (k + 1):=by
  have hf2:=h.self hf
  refine ⟨fun g hg => ?_,fun _ => hf2,fun g hg => ?_,fun j g hj hjs hg hof => ?_⟩
  · split
    · rfl
    · exact h.mono g hg
  · by_cases hgy : g = y
    · subst hgy;exact .inr ⟨hf2,hlt,List.mem_of_getElem? hy⟩
    · simp only [if_neg hgy] at hg
      rcases h.new g hg with h1 | ⟨h1,h2,h3⟩
      · exact .inl h1
      · exact .inr ⟨hf2,h2,h3⟩
  · by_cases hgy : g = y
    · rw [if_pos hgy]
    · rw [if_neg hgy]
      by_cases hjk : j = k
      · subst hjk;rw [hy] at hjs;cases hjs;exact absurd rfl hgy
      · exact h.done j g (by omega) hjs hg hof
theorem CallInv.step {p : Pg} {from_ : Nat → Prop} {o0 o o' : Nat → Bool} {i : Nat} {fn : Fn} (h : CallInv p from_ o0 o i) (hl : p.fns.length = p.len) (h32 : p.len ≤ 32) (hi : p.fns[i]? = some fn) (hst : NameInv p.len o o' i (namedL fn.nodes 7) (namedL fn.nodes 7).length) : CallInv p from_ o0 o' (i + 1):=by
  have hil : i < p.len:=by rw [← hl];exact (List.getElem?_eq_some_iff.1 hi).1
  have call : ∀ g,g < p.len → g ∈ namedL fn.nodes 7 → CallIn p i g:=by
    intro g hg hm
    obtain ⟨_,nd,hnd,h7,ha⟩:=yU.1 hm
    exact ⟨⟨fn,hi,nd,hnd,h7,ha⟩,hg⟩
  refine ⟨fun g hg => hst.mono g (h.mono g hg),fun g hg => ?_,fun j y hj hsj he => ?_,fun hc g hg => ?_⟩
  · rcases hst.new g hg with h1 | ⟨h1,h2,h3⟩
    · exact h.right g h1
    · exact yF (h.right i h1) (call g h2 h3)
  · by_cases hji : j = i
    · subst hji
      obtain ⟨⟨fn',hx',nd,hnd,h7,ha⟩,hyl⟩:=he
      rw [hi] at hx';cases hx'
      obtain ⟨k,hk⟩:=List.mem_iff_getElem?.1 (yU.2 ⟨by omega,nd,hnd,h7,ha⟩ : y ∈ namedL fn.nodes 7)
      exact hst.done k y (List.getElem?_eq_some_iff.1 hk).1 hk hyl (h.mono j hsj)
    · exact hst.mono y (h.done j y (by omega) hsj he)
  · rcases hst.new g hg with h1 | ⟨h1,h2,h3⟩
    · exact h.keep hc g h1
    · exact hc i g hil (h.keep hc i h1) (call g h2 h3)
end Go.Proofs.YtlgaefenhfmjfaaDoor
