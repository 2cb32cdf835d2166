/- SeekSt, WSeekSteps. -/
import Derived.Test.YtnaomfmmkhgbhaaPk14
import Derived.Test.YtnaomfmmkhgbhaaPk11
import Derived.Test.YtnaomfmmkhgbhaaPk10
import Derived.Test.YtnaomfmmkhgbhaaPk16
import Derived.Test.YtnaomfmmkhgbhaaPk1
import Derived.Test.YtnaomfmmkhgbhaaSemP6
namespace Go.Proofs.Ytnaomfmmkhgbhaa
open Go.RowKit
structure StepsJ (w W : World) (B g1 g8 : Nat) (pg : Pg) (A : Option Addr) (i c : Nat) (qs : List Pc) (q : Pc) (L : Option Addr) (n cl : Nat) (l : List (Int × Bool)) (k : Nat) : Prop where
  row : OwnT 17 cfV W B 46 A i c qs
  ne : (Value.slice A i c).ownBlock ≠ some g8
  confs : ∀ j q',qs[j]? = some q' → Mine W B q' ∧ q'.cf = K.to pg l j
  box : Blk W g8 46 (pcC q)
  mine : Mine W B q
  cf : q.cf = K.to pg l k
  prog : Blk W g1 24 (pgC pg)
  pks : OwnT 2 pkV W B 51 L n cl l
  bel : Below B w W
  low : B ≤ g8
section
variable {w W W' : World} {B g1 g8 : Nat} {pg : Pg} {A : Option Addr} {i c : Nat} {qs : List Pc} {q : Pc} {L : Option Addr} {n cl : Nat} {l : List (Int × Bool)} {k : Nat}
theorem StepsJ.more (h : StepsJ w W B g1 g8 pg A i c qs q L n cl l k) (hb : Below W.heap.size W W') (hB : B ≤ W.heap.size) : StepsJ w W' B g1 g8 pg A i c qs q L n cl l k :=
  ⟨h.row.below hb (Nat.le_refl _),h.ne,fun j q' hj => ⟨(h.confs j q' hj).1.below hb (Nat.le_refl _),(h.confs j q' hj).2⟩,h.box.below hb h.box.lt,h.mine.below hb (Nat.le_refl _),h.cf,h.prog.below hb h.prog.lt,h.pks.below hb (Nat.le_refl _),h.bel.trans (hb.mono hB),h.low⟩
theorem StepsJ.app {A3 : Option Addr} {n3 c3 : Nat} (h : StepsJ w W B g1 g8 pg A i c qs q L n cl l k) (hk : qs.length = k) (hg : Grew W W' (.slice A i c) (.slice A3 n3 c3)) (ho : OwnT 17 cfV W' B 46 A3 n3 c3 (qs ++ [q])) (hB : B ≤ W.heap.size) :
    StepsJ w W' B g1 g8 pg A3 n3 c3 (qs ++ [q]) q L n cl l k:=by
  have hH : Held (fun b => b < W.heap.size ∧ Ty W b ≠ some 46) W W':=hg.held.less fun b hb => ⟨hb.1,fun e => hb.2 (h.row.ty b e)⟩
  have hM : ∀ q',Mine W B q' → Mine W' B q':=fun q' hq => hq.held hH fun b hb ht => ⟨hb,fun e => by rw [e] at ht;rcases ht with ht | ht <;> exact absurd ht (by decide)⟩
  refine ⟨ho,fun e => ?_,fun j q' hj => ?_,h.box.grew hg h.ne,hM q h.mine,h.cf,h.prog.held hH ⟨h.prog.lt,by rw [h.prog.ty];decide⟩,h.pks.heldAt hH fun b hb => ⟨(h.pks.block b hb).2,by rw [h.pks.ty b hb];decide⟩,h.bel.grown hg.1 (Nat.le_trans hB (Nat.le_refl _)) (fun b hb => (h.row.block b hb).1),h.low⟩
  · rcases hg.2 with h2 | h2
    · exact h.ne (by rw [← h2];exact e)
    · have h3:=h2 g8 e
      have h4:=h.box.lt
      omega
  · rcases Nat.lt_or_ge j qs.length with hl | hl
    · rw [List.getElem?_append_left hl] at hj
      exact ⟨hM q' (h.confs j q' hj).1,(h.confs j q' hj).2⟩
    · have h4:=(List.getElem?_eq_some_iff.1 hj).1
      simp only [List.length_append,List.length_singleton] at h4
      have e1 : j = qs.length:=by omega
      subst e1
      rw [List.getElem?_append_right (Nat.le_refl _),Nat.sub_self] at hj
      have e2 : q = q':=by simpa using hj
      subst e2
      exact ⟨hM q h.mine,by rw [h.cf,hk]⟩
theorem StepsJ.stored {q2 : Pc} {k2 : Nat} (h : StepsJ w W B g1 g8 pg A i c qs q L n cl l k) (hk : Blk W' g8 46 (pcC q2)) (hg : W.grownBy W' (some g8)) (hq : Mine W B q2) (hcf : q2.cf = K.to pg l k2) (hB : B ≤ W.heap.size) :
    StepsJ w W' B g1 g8 pg A i c qs q2 L n cl l k2:=by
  have hH : Held (fun b => b < W.heap.size ∧ b ≠ g8) W W':=Held.of_grown hg fun b hb => ⟨hb.1,fun e => hb.2 (Option.some.inj e)⟩
  have hM : ∀ q',Mine W B q' → Mine W' B q':=fun q' hq => hq.held hH fun b hb ht => ⟨hb,fun e => by rw [e,h.box.ty] at ht;rcases ht with ht | ht <;> exact absurd ht (by decide)⟩
  exact ⟨h.row.heldAt hH fun b hb => ⟨(h.row.block b hb).2,fun e => h.ne (by rw [← e];exact hb)⟩,h.ne,fun j q' hj => ⟨hM q' (h.confs j q' hj).1,(h.confs j q' hj).2⟩,hk,hM q2 hq,hcf,h.prog.held hH ⟨h.prog.lt,fun e => by have h1:=h.prog.ty;rw [e,h.box.ty] at h1;exact absurd h1 (by decide)⟩,
    h.pks.heldAt hH fun b hb => ⟨(h.pks.block b hb).2,fun e => by have h1:=h.pks.ty b hb;rw [e,h.box.ty] at h1;exact absurd h1 (by decide)⟩,h.bel.grown hg hB (fun b e => by cases e;exact h.low),h.low⟩
end
set_option maxRecDepth 1000000 in
set_option maxHeartbeats 8000000 in
theorem walkSeekSteps (pg0 : Pg) (a1 : Int) (w : World) (w0 : pg0.Ok w w.heap.size) (w1 : (Lit.int .u16 a1).wf = true) :
    Calls Try.prog 7 #[pgA pg0,.int .u16 a1] w fun e w' => e = .returned (.bool true) ∧ Below w.heap.size w w':=by
  have HP:=kp w0
  have ha1:=x7 a1 w1
  obtain ⟨r,hr⟩ : ∃ r,Q.small pg0 = r:=⟨_,rfl⟩
  have HR:=kp hr
  obtain ⟨⟨ca,cb,cc⟩,hc⟩ : ∃ x,Q.check pg0 = x:=⟨_,rfl⟩
  have HC:=kp hc
  clear hr w0 w1 hc
  rw [jI]
  go_enter Try.func7,Try.ntmps7
  go_wp2_with (first
    | ((with_reducible refine j2 rfl 24 (.tmp 0) rfl (pgC pg0) rfl ?_);intro g1 u1 hg1 hk1 hu1;have HK1:=kp hk1;have HU1:=kp hu1;have hz1:=hu1.size;have hl1:=hk1.lt;clear hg1 hk1 hu1)
    | (go_at_call 8;fail))
  refine (jX u1).mono ?_
  rintro e u2 ⟨rfl,hb2⟩
  have HU2:=kp (HU1.out.trans (hb2.mono hz1))
  have hs2:=HU2.out.size
  have HKp:=kp (HK1.out.below hb2 hl1)
  have hlp:=HKp.out.lt
  clear hb2
  obtain ⟨hc0,hc1',hc2,hc3⟩:=jE HKp.out
  go_wp2_with (go_at_call 9;fail)
  refine (qU w.heap.size pg0 u2 (HP.out.below HU2.out) hs2 _ HR.out).mono ?_
  rintro e u3 ⟨rfl,hb3⟩
  have HU3:=kp (HU2.out.trans (hb3.mono hs2))
  have hs3:=HU3.out.size
  have HKp:=kp (HKp.out.below hb3 hlp)
  have hlp:=HKp.out.lt
  clear hb3 hc0 hc1' hc2 hc3
  cases r
  · go_wp2_with (go_at_call 8;fail)
    refine (jX u3).mono ?_
    rintro e u4 ⟨rfl,hb4⟩
    have HU4:=kp (HU3.out.trans (hb4.mono hs3))
    clear hb4
    go_wp2
    go_ret
    exact ⟨rfl,HU4.out⟩
  · obtain ⟨hc0,hc1',hc2,hc3⟩:=jE HKp.out
    go_wp2_with (go_at_call 10;fail)
    refine (xZ w.heap.size pg0 (a1 % 600) (by omega) u3 (HP.out.below HU3.out) hs3 ca cb cc HC.out).mono ?_
    unfold FindPost
    rintro e u4 ⟨L4,n4,c4,l4,is4,rfl,ho4,hn4,hout4,hno4,hb4⟩
    have HO4:=kp (ho4.less hs3);have HOut4:=kp hout4;have HNo4:=kp hno4;have HU4:=kp (HU3.out.trans (hb4.mono hs3))
    have hs4:=HU4.out.size
    have HKp:=kp (HKp.out.below hb4 hlp)
    have hlp:=HKp.out.lt
    clear ho4 hout4 hno4 hb4 hc0 hc1' hc2 hc3
    by_cases hz : cc = 0
    rotate_left
    · obtain ⟨hl0,hi0⟩:=HNo4.out hz
      subst hl0 hi0
      have hb0 : ((cc : Int) != 0) = true:=by simpa using hz
      go_wp2
      go_ret
      exact ⟨rfl,HU4.out⟩
    have HCz : Kept ((cc : Int) = 0):=kp (by omega)
    have hb0 : ((cc : Int) != 0) = false:=by rw [HCz.out];rfl
    have HO:=kp (HOut4.out hz)
    by_cases his : is4 = 1
    rotate_left
    · have hb1 : ((is4 : Int) != 1) = true:=by rw [bne_iff_ne];omega
      go_wp2
      go_ret
      exact ⟨rfl,HU4.out⟩
    subst his
    by_cases hbig : 300 < n4
    · go_wp2
      go_ret
      exact ⟨rfl,HU4.out⟩
    have HF : Kept (Fine pg0):=kp (qZ (by rw [HC.out,hz]))
    have HL : Kept (pg0.fns.length = pg0.len):=kp HP.out.row.len
    obtain ⟨hfd,_⟩:=K.out_found HF.out HL.out HO.out
    have HFd:=kp hfd
    have hn4b : l4.length = n4:=HO4.out.1
    clear hfd
    obtain ⟨hc0,hc1',hc2,hc3⟩:=jE HKp.out
    go_wp2_with (first
      | (go_at_call 15;go_must (refine (xM w.heap.size pg0 u4 (HP.out.below HU4.out) hs4 ca cb cc HC.out).mono ?_);rintro e u5 ⟨q0,rfl,hm5,hcf5,_,h16,hb5⟩;have HQ5:=kp (hm5.less hs4);have HCf:=kp (hcf5 hz);have H17:=kp (jT h16);have HU5:=kp (HU4.out.trans (hb5.mono hs4));have HO5:=kp (HO4.out.below hb5 (Nat.le_refl _));have HKp5:=kp (HKp.out.below hb5 hlp);have hs5:=HU5.out.size;have hlp5:=HKp5.out.lt;clear hb5 h16 hm5 hcf5)
      | ((with_reducible show Sl 8);go_must (refine j3 rfl 46 rfl _ jZ ?_);intro g8 u6 hg8 hk6 hw6;have HK86:=kp hk6;have HG8:=kp hg8;have HM6:=kp hw6;clear hk6 hw6 hg8)
      | ((with_reducible show Sn);refine j4 rfl 46 (.tmp 8) (.tmp 44) rfl g8 (pcC q0) rfl rfl _ _ HK86.out (by rw [H17.out];exact jA) (by rw [H17.out];rfl) (jW q0) ?_;intro u7 hk7 hgr7 hz7;have HM7:=kp (HM6.out.grown hgr7 HM6.out.size (fun k e => by cases e;exact HG8.out));have HK87:=kp hk7;have HQ7:=kp (HQ5.out.below HM7.out (Nat.le_refl _));have HO7:=kp (HO5.out.below HM7.out (Nat.le_refl _));have HKp7:=kp (HKp5.out.below HM7.out hlp5);have HU7:=kp (HU5.out.trans (HM7.out.mono hs5));have hs7:=HU7.out.size;clear hk7 hgr7 hz7))
    have HGd : Kept (∀ j,M.Good pg0 (K.to pg0 l4 j)):=kp (qT HF.out HL.out l4)
    have HJ7 : Kept (StepsJ w u7 w.heap.size g1 g8 pg0 none 0 0 [] q0 L4 n4 c4 l4 0):=kp ⟨OwnT.nil _ _ _ _ _,by simp [Value.ownBlock],fun j q' hj => (by simp at hj),HK87.out,HQ7.out,by rw [HCf.out];rfl,HKp7.out,HO7.out,HU7.out,by have:=HG8.out;omega⟩
    have hn300 : n4 ≤ 300:=by omega
    go_loopw [10,11] (fun v10 v11 wr => ∃ (i c : Nat) (A : Option Addr) (qs : List Pc) (q : Pc),i ≤ n4 ∧ v10 = .slice A i c ∧ v11 = .int .i64 (i : Int) ∧ StepsJ w wr w.heap.size g1 g8 pg0 A i c qs q L4 n4 c4 l4 i ∧ w.heap.size ≤ wr.heap.size) (fun _ v11 _ => n4 - (intOf v11).toNat)
    case atStart => exact ⟨0,0,none,[],q0,by omega,rfl,rfl,HJ7.out,hs7⟩
    case round =>
      clear HJ7 HKp7 HO7 HK87 HQ7 HU7 HM7
      obtain ⟨i,c,A,qs,q,hi,rfl,rfl,hj,hsr⟩:=hrel
      have HJ:=kp hj
      have hql : qs.length = i:=hj.row.1
      clear hj
      by_cases hlt : i < n4
      · obtain ⟨gL,offL,hL4⟩ : ∃ g off,L4 = some ⟨g,off,none⟩:=by
          rcases HJ.out.pks.2.2.2 with ⟨_,h0⟩ | ⟨g,o,cur,h1,_⟩
          · have:=HJ.out.pks.2.1;omega
          · exact ⟨g,o,h1⟩
        obtain ⟨x,hx⟩ : ∃ x,l4[i]? = some x:=⟨_,List.getElem?_eq_getElem (by omega)⟩
        obtain ⟨hx0,hxe⟩:=HFd.out.may i x hx
        have HX:=kp hx
        have HEn : Kept (M.enabled pg0 q.cf x.1 = true):=kp (by rw [HJ.out.cf];unfold M.enabled;simp [hx0,hxe])
        have HXI : Kept (I64 x.1):=kp (K.found_i64 HF.out HL.out HFd.out x (List.mem_of_getElem? hx))
        have HGq : Kept (M.Good pg0 q.cf):=kp (by rw [HJ.out.cf];exact HGd.out i)
        have H17q:=kp (jT HGq.out.owns)
        clear hx hx0 hxe
        go_wp2_with (first
          | ((with_reducible show Sl 53);go_must (refine j1 rfl 46 (.tmp 8) rfl g8 rfl _ (pcC q) _ HJ.out.box Try.underlying46 rfl (by rw [H17q.out];exact jA) ?_))
          | ((with_reducible show Sl 54);go_must (refine j8 rfl 49 46 (.tmp 53) rfl 17 Try.underlying49 LG (by decide) (by decide) (.agg (pcC q).toArray) (pcC q) rfl rfl H17q.out ?_);intro g3 w3 hg3 hk3 hb3;have HK3:=kp hk3;have HJ3:=kp (HJ.out.more hb3 hsr);have hs3:=hb3.size;clear hk3 hb3)
          | (at_builtin;(with_reducible show Sl 55);go_must (refine jS (B:=w.heap.size) rfl (.tmp 52) (.tmp 54) 49 rfl Try.underlying49 Q8 rfl cfV_one rfl HJ3.out.row q ⟨g3,0,none⟩ 1 rfl (fun j hj => by rw [Addr.add_mid,Nat.zero_add,HK3.out.cell];exact QY HGq.out.owns hj) (by unfold maxLen;omega) (by omega) (by omega) ?_);intro A9 c9 w9 hown9 hgr9;have HJ9:=kp (HJ3.out.app hql hgr9 hown9 (by omega));have hs9:=hgr9.1.size;clear hown9 hgr9))
        have hs9b : w.heap.size ≤ w9.heap.size:=by omega
        subst hL4
        have hin : (i : Int) < (n4 : Int):=by omega
        have hl8:=HJ9.out.box.lt;have hl1':=HJ9.out.prog.lt
        go_wp2
        apply jC 8 (.is (pcA q) :: .is (pgA pg0) :: .is _ :: .is _ :: .is (.pointer (some ⟨gL,offL + i * 2,none⟩)) :: .is _ :: .is (.int .i64 x.1) :: .is (.bool true) :: [])
          [[],[],[],[],[(2,58),(3,59)],[(4,60)],[(5,61)],[(0,56),(1,57),(6,62)],[(7,63)]]
          [(0,56),(1,57),(2,58),(3,59),(4,60),(5,61),(6,62),(7,63)] (by kernel_rfl) (by kernel_rfl) (by kernel_rfl) (by kernel_rfl) (by kernel_rfl)
        case hob =>
          refine ⟨?o0,?o1,?o2,?o3,?o4,?o5,?o6,?o7,trivial⟩
          case o0 =>
            intro W hW;change wpList _ _ _ _ _ _
            go_must (refine j1 rfl 46 (.tmp 8) rfl g8 rfl _ (pcC q) _ (HJ9.out.box.below hW hl8) Try.underlying46 rfl (by rw [H17q.out];exact jA) ?_)
            go_wp2;exact j0 rfl rfl rfl
          case o1 =>
            intro W hW;change wpList _ _ _ _ _ _
            go_must (refine j1 rfl 24 (.tmp 2) rfl g1 rfl _ (pgC pg0) _ (HJ9.out.prog.below hW hl1') Try.underlying24 rfl (jD) ?_)
            go_wp2;exact j0 rfl rfl rfl
          case o2 => intro W hW;change wpList _ _ _ _ _ _;go_wp2;exact j0 rfl rfl rfl
          case o3 => intro W hW;change wpList _ _ _ _ _ _;go_wp2;exact j0 rfl rfl rfl
          case o4 => intro W hW;rintro _ rfl;rintro _ rfl;change wpList _ _ _ _ _ _;go_wp2;exact j0 rfl rfl rfl
          case o5 => intro W hW;rintro _ rfl;change wpList _ _ _ _ _ _;go_wp2;exact j0 rfl rfl rfl
          case o6 =>
            intro W hW;rintro _ rfl;change wpList _ _ _ _ _ _
            have hcx : W.cell? ⟨gL,offL + i * 2,none⟩ = some (.int .i64 x.1):=(HJ9.out.pks.below hW (Nat.le_refl _)).cellAt HX.out (show 0 < 2 by omega)
            go_wp2;exact j0 rfl rfl rfl
          case o7 =>
            intro W hW;rintro _ rfl;rintro _ rfl;rintro _ rfl;change wpList _ _ _ _ _ _
            have hsW:=hW.size
            go_wp2_with fail
            refine (x8 W.heap.size pg0 HF.out q W (lD (HP.out.below (HJ9.out.bel.trans (hW.mono hs9b))) (by omega)) (HJ9.out.mine.below hW (Nat.le_refl _)).ok HGq.out (Nat.le_refl _) x.1 HXI.out true HEn.out).mono ?_
            rintro e9 v9 ⟨rfl,hb9⟩
            have HB9:=kp hb9;clear hb9
            go_wp2
            exact jB rfl rfl rfl HB9.out rfl
        case hend =>
          intro W hW;rintro _ rfl;rintro _ rfl;rintro _ rfl;rintro _ rfl;rintro _ rfl;rintro _ rfl;rintro _ rfl;rintro _ rfl
          simp only [given,jF,List.set,List.drop]
          have HJa:=kp (HJ9.out.more hW hs9b)
          have hsa : w.heap.size ≤ W.heap.size:=by have:=hW.size;omega
          have hl8:=HJa.out.box.lt;have hl1':=HJa.out.prog.lt
          clear hW
          obtain ⟨wa,hwa⟩ : ∃ y,y = W:=⟨_,rfl⟩
          subst hwa
          go_wp2
          apply jC 7 (.is (pcA q) :: .is (pgA pg0) :: .is _ :: .is _ :: .is (.pointer (some ⟨gL,offL + i * 2,none⟩)) :: .is (.agg (pkC x).toArray) :: Fact.stepped w.heap.size (M.step pg0 q.cf x.1 x.2) :: [])
            [[],[],[],[],[(2,67),(3,68)],[(4,69)],[(0,65),(1,66),(5,70)],[(6,71)]]
            [(0,65),(1,66),(2,67),(3,68),(4,69),(5,70),(6,71)] (by kernel_rfl) (by kernel_rfl) (by kernel_rfl) (by kernel_rfl) (by kernel_rfl)
          case hob =>
            refine ⟨?o0,?o1,?o2,?o3,?o4,?o5,?o6,trivial⟩
            case o0 =>
              intro W hW;change wpList _ _ _ _ _ _
              go_must (refine j1 rfl 46 (.tmp 8) rfl g8 rfl _ (pcC q) _ (HJa.out.box.below hW hl8) Try.underlying46 rfl (by rw [H17q.out];exact jA) ?_)
              go_wp2;exact j0 rfl rfl rfl
            case o1 =>
              intro W hW;change wpList _ _ _ _ _ _
              go_must (refine j1 rfl 24 (.tmp 2) rfl g1 rfl _ (pgC pg0) _ (HJa.out.prog.below hW hl1') Try.underlying24 rfl (jD) ?_)
              go_wp2;exact j0 rfl rfl rfl
            case o2 => intro W hW;change wpList _ _ _ _ _ _;go_wp2;exact j0 rfl rfl rfl
            case o3 => intro W hW;change wpList _ _ _ _ _ _;go_wp2;exact j0 rfl rfl rfl
            case o4 => intro W hW;rintro _ rfl;rintro _ rfl;change wpList _ _ _ _ _ _;go_wp2;exact j0 rfl rfl rfl
            case o5 =>
              intro W hW;rintro _ rfl;change wpList _ _ _ _ _ _
              go_must (refine jM rfl 51 (.tmp 69) rfl ⟨gL,offL + i * 2,none⟩ rfl (pkC x) _ ((HJa.out.pks.below hW (Nat.le_refl _)).pick HX.out) Try.underlying51 rfl jY ?_)
              go_wp2;exact j0 rfl rfl rfl
            case o6 =>
              intro W hW;rintro _ rfl;rintro _ rfl;rintro _ rfl;change wpList _ _ _ _ _ _
              have hsW:=hW.size
              go_wp2_with fail
              refine (vQ W.heap.size pg0 HF.out q W (lD (HP.out.below (HJa.out.bel.trans (hW.mono hsa))) (by omega)) (HJa.out.mine.below hW (Nat.le_refl _)).ok HGq.out (Nat.le_refl _) x.1 HXI.out x.2).mono ?_
              rintro e9 v9 ⟨q2,rfl,hm2,hcf2,hb9⟩
              have HB9:=kp hb9;have HM2:=kp (hm2.less (show w.heap.size ≤ W.heap.size by omega));have HC2:=kp hcf2;clear hb9 hm2 hcf2
              go_wp2
              exact jB rfl rfl rfl HB9.out ⟨q2,rfl,HM2.out,HC2.out⟩
          case hend =>
            intro W hW;rintro _ rfl;rintro _ rfl;rintro _ rfl;rintro _ rfl;rintro _ rfl;rintro _ rfl;rintro _ ⟨q2,rfl,hm2,hcf2⟩
            simp only [given,jF,List.set,List.drop]
            have HJb:=kp (HJa.out.more hW hsa);have HM2:=kp hm2
            have hsb : w.heap.size ≤ W.heap.size:=by have:=hW.size;omega
            have HC2 : Kept (q2.cf = K.to pg0 l4 (i + 1)):=kp (by rw [hcf2,HJa.out.cf];exact (K.to_succ pg0 l4 i x HX.out).symm)
            have HG2 : Kept (M.Good pg0 q2.cf):=kp (by rw [HC2.out];exact HGd.out (i + 1))
            have H172:=kp (jT HG2.out.owns)
            clear hW hm2 hcf2
            go_wp2_with ((with_reducible show Sn);go_must (refine j4 rfl 46 (.tmp 8) (.tmp 71) rfl g8 (pcC q2) rfl rfl _ _ HJb.out.box (by rw [H172.out];exact jA) (by rw [H172.out,H17q.out]) (jW q2) ?_);intro wc hkc hgc hzc;have HJc:=kp (HJb.out.stored hkc hgc HM2.out HC2.out hsb);have hsc : w.heap.size ≤ wc.heap.size:=Nat.le_trans hsb hgc.size;clear hkc hgc hzc)
            (try simp only [lH])
            go_wp2
            go_loopw [12] (fun v12 wr => ∃ k : Nat,k ≤ i + 1 ∧ v12 = .int .i64 (k : Int) ∧ StepsJ w wr w.heap.size g1 g8 pg0 A9 (i + 1) c9 (qs ++ [q]) q2 (some ⟨gL,offL,none⟩) n4 c4 l4 (i + 1) ∧ w.heap.size ≤ wr.heap.size) (fun v12 _ => i + 1 - (intOf v12).toNat)
            case atStart => exact ⟨0,by omega,rfl,HJc.out,hsc⟩
            case round =>
              obtain ⟨k,hk,rfl,hjd,hsd⟩:=hrel
              have HJd:=kp hjd
              clear hjd
              by_cases hkl : k < i + 1
              · obtain ⟨qk,hqk⟩ : ∃ y,(qs ++ [q])[k]? = some y:=⟨_,List.getElem?_eq_getElem (by rw [List.length_append,List.length_singleton];omega)⟩
                obtain ⟨hmk,hck⟩:=HJd.out.confs k qk hqk
                have HQk:=kp hqk;have HMk:=kp hmk;have HCk:=kp hck
                have HGk : Kept (M.Good pg0 qk.cf):=kp (by rw [hck];exact HGd.out k)
                have H17k:=kp (jT HGk.out.owns)
                have HNe : Kept (false = true ↔ qk.cf = q2.cf):=kp ⟨fun h => (by cases h),fun h => absurd (by rw [← HCk.out,h,HC2.out]) (HFd.out.apart k (i + 1) hkl (by omega))⟩
                obtain ⟨gA,offA,hA9⟩ : ∃ g off,A9 = some ⟨g,off,none⟩:=by
                  rcases HJd.out.row.2.2.2 with ⟨_,h0⟩ | ⟨g,o,cur,h1,_⟩
                  · have:=HJd.out.row.2.1;omega
                  · exact ⟨g,o,h1⟩
                clear hqk hmk hck
                subst hA9
                have hl8:=HJd.out.box.lt
                go_wp2
                apply jC 5 (.is _ :: .is _ :: .is (.pointer (some ⟨gA,offA + k * 17,none⟩)) :: .is (pcA qk) :: .is (pcA q2) :: [])
                  [[],[],[(0,78),(1,79)],[(2,80)],[],[(3,81),(4,82)]]
                  [(0,78),(1,79),(2,80),(3,81),(4,82)] (by kernel_rfl) (by kernel_rfl) (by kernel_rfl) (by kernel_rfl) (by kernel_rfl)
                case hob =>
                  refine ⟨?o0,?o1,?o2,?o3,?o4,trivial⟩
                  case o0 => intro W hW;change wpList _ _ _ _ _ _;go_wp2;exact j0 rfl rfl rfl
                  case o1 => intro W hW;change wpList _ _ _ _ _ _;go_wp2;exact j0 rfl rfl rfl
                  case o2 => intro W hW;rintro _ rfl;rintro _ rfl;change wpList _ _ _ _ _ _;go_wp2;exact j0 rfl rfl rfl
                  case o3 =>
                    intro W hW;rintro _ rfl;change wpList _ _ _ _ _ _
                    go_must (refine jM rfl 46 (.tmp 80) rfl ⟨gA,offA + k * 17,none⟩ rfl (pcC qk) _ (fun j v hv => by rw [Addr.add_mid,(HJd.out.row.below hW (Nat.le_refl _)).cellAt HQk.out (by have:=(List.getElem?_eq_some_iff.1 hv).1;rw [H17k.out] at this;exact this),← QY HGk.out.owns (by have:=(List.getElem?_eq_some_iff.1 hv).1;rw [H17k.out] at this;exact this)];exact hv) Try.underlying46 rfl (by rw [H17k.out];exact jA) ?_)
                    go_wp2;exact j0 rfl rfl rfl
                  case o4 =>
                    intro W hW;change wpList _ _ _ _ _ _
                    go_must (refine j1 rfl 46 (.tmp 8) rfl g8 rfl _ (pcC q2) _ (HJd.out.box.below hW hl8) Try.underlying46 rfl (by rw [H172.out];exact jA) ?_)
                    go_wp2;exact j0 rfl rfl rfl
                case hend =>
                  intro W hW;rintro _ rfl;rintro _ rfl;rintro _ rfl;rintro _ rfl;rintro _ rfl
                  simp only [given,jF,List.set,List.drop]
                  have HJe:=kp (HJd.out.more hW hsd);have HMk2:=kp (HMk.out.below hW (Nat.le_refl _))
                  have hse : w.heap.size ≤ W.heap.size:=by have:=hW.size;omega
                  clear hW
                  go_wp2_with (go_at_call 18;fail)
                  refine (sem_same W.heap.size qk q2 W HMk2.out.ok HJe.out.mine.ok (Nat.le_refl _) (good_8s HGk.out) (good_8s HG2.out) HGk.out.owns HG2.out.owns false HNe.out).mono ?_
                  rintro e9 v9 ⟨rfl,hb9⟩
                  have HJf:=kp (HJe.out.more hb9 hse);have hsf : w.heap.size ≤ v9.heap.size:=by have:=hb9.size;omega
                  clear hb9
                  go_wp2
                  go_roundw
                  case rel => exact ⟨k + 1,by omega,by go_num,HJf.out,hsf⟩
                  case measure => simp [intOf];omega
              · have hke : k = i + 1:=by omega
                subst hke
                go_wp2
                go_roundw
                case rel => exact ⟨i + 1,c9,A9,qs ++ [q],q2,by omega,rfl,by go_num,HJd.out,hsd⟩
                case measure => simp [intOf];omega
      · have hge : n4 ≤ i:=by omega
        go_wp2
        go_ret
        exact ⟨rfl,HJ.out.bel⟩
end Go.Proofs.Ytnaomfmmkhgbhaa
