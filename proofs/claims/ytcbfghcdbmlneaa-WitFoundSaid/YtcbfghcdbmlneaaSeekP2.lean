/- What one put does, walked. -/
import Derived.Test.YtcbfghcdbmlneaaPk31
import Derived.Test.YtcbfghcdbmlneaaPk30
import Derived.Test.YtcbfghcdbmlneaaSemPb
import Derived.Test.YtcbfghcdbmlneaaPk4
import Derived.BigQuiet
namespace Go.Proofs.Ytcbfghcdbmlneaa
open Go.RowKit
theorem origin_info : (Try.prog.info? 117).map (fun i => (i.zero,i.size,i.bytes)) = some (some (.agg #[.int .i64 0,.int .i64 0,.bool false]),3,24):=by kernel_rfl
theorem Y3 : (Try.prog.info? 117).map (fun i => (i.zero.map (·.cells.size),i.size)) = some (some 3,3):=by kernel_rfl
theorem conf_cells : (Try.prog.info? 91).map (fun i => (i.zero.map (·.cells.size),i.size)) = some (some 17,17):=by kernel_rfl
theorem orV_at (e : K.En) {j : Nat} (hj : j < 3) : ([.int .i64 (e.src : Int),.int .i64 (e.who : Int),.bool e.way] : List Value)[j]? = some (orV e j):=by
  have : j = 0 ∨ j = 1 ∨ j = 2:=by omega
  rcases this with rfl | rfl | rfl <;> rfl
theorem conf_info : (Try.prog.info? 91).map (fun i => (i.zero,i.size,i.bytes)) = some (some (.agg (Value.slice none 0 0 :: zeros 16).toArray),17,152):=by kernel_rfl
def orA (src who : Nat) (way : Bool) : Value:=.agg #[.int .i64 (src : Int),.int .i64 (who : Int),.bool way]
set_option maxRecDepth 100000 in
set_option maxHeartbeats 3200000 in
theorem sk_put (B gS : Nat) (p : Pg) (hf : Fine p) (hl : p.fns.length = p.len) (most : Int) (hmost : most ≤ 5000 ∧ -9223372036854775808 ≤ most) (r : Sr) (s : K.Sk) (i : Nat) (qs : List Pc) (w : World) (hm : SkM w B gS p most r s i qs) (hi : K.Inv p most s)
    (q : Pc) (hq : Mine w B q) (hg : M.Good p q.cf) (hlo : K.Low p q.cf) (src who : Nat) (way : Bool) (path : List (Int × Bool)) (hB : B ≤ w.heap.size) :
    Calls Try.prog 52 #[.pointer (some ⟨gS,0,none⟩),pcA q,orA src who way] w fun e w' => e = .returned (.tuple #[]) ∧ ∃ r' qs',SkM w' B gS p most r' (K.put most s ⟨q.cf,src,who,way,path⟩) i qs' ∧ SkS w w' gS r r':=by
  have H17:=kp (jW hg.owns)
  have H16 : Kept (q.ow.length = 16):=kp hg.owns
  have HM:=kp hm;have HI:=kp hi;have HQ:=kp hq;have HG:=kp hg;have HLo:=kp hlo;have HF:=kp hf;have HL:=kp hl
  obtain ⟨ks,hks,hkl⟩:=hm.pt.key
  have hS0:=hm.pt.blk.lt
  obtain ⟨kl,hkl0⟩ : ∃ n,(K.key p q.cf).length = n:=⟨_,rfl⟩
  have HKl:=kp hkl0
  clear hm hi hq hg hlo hf hl hkl0 hkl
  rw [qS]
  obtain ⟨ca,hca⟩ : ∃ ca,pcC q = ca:=⟨_,rfl⟩
  unfold orA
  go_enter Try.func52,Try.ntmps52
  go_wp2_with (first
    | ((with_reducible refine j6 rfl 91 (.tmp 1) rfl (pcC q) rfl ?_);intro g4 w1 hg4 hk1 hw1;have HK4:=kp hk1;have HW1:=kp hw1;have hs1:=hw1.size;have hl1:=hk1.lt;clear hk1 hw1)
    | ((with_reducible refine j6 rfl 117 (.tmp 2) rfl [.int .i64 (src : Int),.int .i64 (who : Int),.bool way] rfl ?_);intro g5 w2 hg5 hk2 hw2;have HK5:=kp hk2;have HK4b:=kp (HK4.out.below hw2 hl1);have HW2:=kp (HW1.out.trans (hw2.mono hs1));have hs2:=HW2.out.size;clear hk2 hw2))
  have HM2:=kp (HM.out.below HW2.out (Nat.le_refl _));have HQ2:=kp (HQ.out.below HW2.out (Nat.le_refl _))
  have HKs2:=kp (hks.below HW2.out (Nat.le_refl _))
  have hS2 : gS < w2.heap.size:=by omega
  have hB2 : B ≤ w2.heap.size:=by omega
  clear hks hca
  apply zC 11 (.is _ :: .is _ :: .is _ :: .is _ :: .is _ :: .is _ :: .is _ :: .is _ :: .is _ :: .is _ :: .is _ :: [])
    [[],[],[(1,7)],[(2,8)],[(3,9)],[(4,10)],[],[(6,12)],[(7,13)],[(8,14)],[],[(5,11),(9,15),(10,16)],[(0,6)],[(12,18)],[(13,19),(11,17)]]
    [(0,6),(1,7),(2,8),(3,9),(4,10),(5,11),(6,12),(7,13),(8,14),(9,15),(10,16)] (o0:=_) (c0:=.pointer (some ⟨gS,0,none⟩)) (hm:=by kernel_rfl) (hok:=by kernel_rfl) (ht:=by kernel_rfl) (hn:=by kernel_rfl) (hev:=by kernel_rfl) (ho0:=rfl) (hsel:=by kernel_rfl) (hfree:=by kernel_rfl) (hrd:=by kernel_rfl) (hw0:=by rfl) (hy0:=fun _ => by rfl) (hR0:=rfl)
  case hob =>
    refine ⟨?o0,?o1,?o2,?o3,?o4,?o5,?o6,?o7,?o8,?o9,?o10,trivial⟩
    case o0 => intro W hW;change wpList _ _ _ _ _ _;go_wp2;exact j0 rfl rfl rfl
    case o1 => intro W hW;change wpList _ _ _ _ _ _;go_wp2;exact j0 rfl rfl rfl
    case o2 => intro W hW;rintro _ rfl;change wpList _ _ _ _ _ _;go_wp2;exact j0 rfl rfl rfl
    case o3 => intro W hW;rintro _ rfl;change wpList _ _ _ _ _ _;go_wp2;exact j0 rfl rfl rfl
    case o4 =>
      intro W hW;rintro _ rfl;change wpList _ _ _ _ _ _
      have hc:=(HM2.out.pt.blk.below hW hS2).cell 8
      rw [show (srC p most r)[8]? = some (.slice r.KA r.kn r.kc) from rfl] at hc
      go_wp2;exact j0 rfl rfl rfl
    case o5 => intro W hW;rintro _ rfl;change wpList _ _ _ _ _ _;go_wp2;exact j0 rfl rfl rfl
    case o6 => intro W hW;change wpList _ _ _ _ _ _;go_wp2;exact j0 rfl rfl rfl
    case o7 => intro W hW;rintro _ rfl;change wpList _ _ _ _ _ _;go_wp2;exact j0 rfl rfl rfl
    case o8 => intro W hW;rintro _ rfl;change wpList _ _ _ _ _ _;go_wp2;exact j0 rfl rfl rfl
    case o9 =>
      intro W hW;rintro _ rfl;change wpList _ _ _ _ _ _
      have hb9:=HM2.out.pt.blk.below hW hS2
      have hc0:=hb9.cell 0;have hc1:=hb9.cell 1;have hc2:=hb9.cell 2;have hc3:=hb9.cell 3
      simp only [srC,List.getElem?_cons_zero,List.getElem?_cons_succ] at hc0 hc1 hc2 hc3
      clear hb9
      go_wp2;exact j0 rfl rfl rfl
    case o10 =>
      intro W hW;change wpList _ _ _ _ _ _
      go_must (refine j4 rfl 91 (.tmp 4) rfl g4 rfl _ (pcC q) _ (HK4b.out.below hW HK4b.out.lt) Try.underlying91 rfl (by rw [H17.out];exact jC) ?_)
      go_wp2;exact j0 rfl rfl rfl
  case hend =>
    intro W hW;rintro _ rfl;rintro _ rfl;rintro _ rfl;rintro _ rfl;rintro _ rfl;rintro _ rfl;rintro _ rfl;rintro _ rfl;rintro _ rfl;rintro _ rfl;rintro _ rfl
    simp only [given,jJ,List.set,List.drop]
    have HMd:=kp (HM2.out.below hW (Nat.le_refl _));have HK4d:=kp (HK4b.out.below hW HK4b.out.lt);have HQd:=kp (HQ2.out.below hW (Nat.le_refl _));have HK5d:=kp (HK5.out.below hW HK5.out.lt);have HBd:=kp (HW2.out.trans (hW.mono hs2));have HKsd:=kp (HKs2.out.below hW (Nat.le_refl _))
    have hsW:=hW.size
    clear hW
    have HNe : Kept (∀ g t cs,Blk W g t cs → t ≠ 5 → (Value.slice r.KA 0 r.kc).ownBlock ≠ some g):=kp fun g t cs hb hne e => by
      have h : Ty W g = some 5:=(HKsd.out.front (Nat.zero_le _)).ty g e
      rw [hb.ty] at h
      exact hne (Option.some.inj h)
    go_wp2_with (go_at_call 77;fail)
    refine (sk_key B B p HF.out HL.out q W (.slice r.KA 0 r.kc) [] HQd.out HG.out (HKsd.out.front (Nat.zero_le _)) (by simp) (by omega)).mono ?_
    rintro e w3 ⟨v3,rfl,hown3,hgr3⟩
    rw [List.nil_append] at hown3
    obtain ⟨A3,c3,rfl,hc3,hm3,hr3⟩:=hown3.bytesN HKl.out
    unfold maxLen at hm3
    have HO3:=kp hown3;have HG3:=kp hgr3
    have hkb3:=HMd.out.pt.blk.grew hgr3 (HNe.out _ _ _ HMd.out.pt.blk (by decide))
    have hc8 : w3.cell? ⟨gS,8,none⟩ = some (.slice r.KA r.kn r.kc):=hkb3.cell 8
    have hz8 : w3.frozen? ⟨gS,8,none⟩ = false:=hkb3.frozen 8
    clear hown3 hgr3 hr3 hkb3
    go_wp2
    refine NoPanic.normal ?_
    have HKb : Kept ((K.key p q.cf).length ≤ 500 ∧ ∀ b ∈ K.key p q.cf,b < 256):=kp ⟨by
      have h1:=K.keyTs_len (p:=p) (l:=q.cf.ths) (fun x hx => ⟨HG.out.eight x hx,by have:=M.high HF.out HL.out HG.out hx;have:=HF.out.counts.f.2;omega⟩)
      have h2:=HG.out.most
      have h3 : (q.cf.owners.take p.l.toNat).length ≤ 16:=by have:=HG.out.owns;rw [List.length_take];omega
      unfold K.key
      rw [List.length_append];omega,K.key_byte HF.out HL.out HG.out⟩
    obtain ⟨hp4,ht4,ho4⟩:=HMd.out.pt.keyed HG3.out HO3.out HKb.out.1
    have ht4b : SkS w (w3.setCell ⟨gS,8,none⟩ (.slice A3 kl c3)) gS r { r with KA:=A3,kn:=kl,kc:=c3 }:=(SkS.below HBd.out (Nat.le_refl _)).trans ht4
    have hk54:=HK5d.out.held ht4.1 ⟨HK5d.out.lt,fun e => by have h1:=(HM.out.pt.lt e).2;omega⟩
    have hk44:=HK4d.out.held ht4.1 ⟨HK4d.out.lt,fun e => by have h1:=(HM.out.pt.lt e).2;omega⟩
    have hq4:=HMd.out.pt.mine ht4.1 (fun k h1 h2 => ⟨h1,h2⟩) HQd.out
    obtain ⟨w4,hw4⟩ : ∃ W,w3.setCell ⟨gS,8,none⟩ (.slice A3 kl c3) = W:=⟨_,rfl⟩
    obtain ⟨r3,hr3⟩ : ∃ x,({ r with KA:=A3,kn:=kl,kc:=c3 } : Sr) = x:=⟨_,rfl⟩
    have he3 : r3.KA = A3 ∧ r3.kn = kl ∧ r3.kc = c3 ∧ r3.gM = r.gM ∧ r3.left = r.left:=by subst hr3;exact ⟨rfl,rfl,rfl,rfl,rfl⟩
    rw [hw4] at hp4 ht4b ho4 hk54 hk44 hq4 ⊢
    rw [hr3] at hp4 ht4b
    have HP4:=kp hp4;have HT4:=kp ht4b;have HO4:=kp ho4;have HK54:=kp hk54;have HK44:=kp hk44;have HQ4:=kp hq4;have HE3:=kp he3
    have HN4 : Kept (¬ SkT r3 gS g4):=kp fun e => by
      rcases ht4.2 g4 (by rw [hr3];exact e) with h | h
      · have:=(HM.out.pt.lt h).2;omega
      · have:=HK4d.out.lt;omega
    have HN5 : Kept (¬ SkT r3 gS g5):=kp fun e => by
      rcases ht4.2 g5 (by rw [hr3];exact e) with h | h
      · have:=(HM.out.pt.lt h).2;omega
      · have:=HK5d.out.lt;omega
    have HLeft : Kept (r3.left = s.left):=kp (he3.2.2.2.2.trans HM.out.left)
    have hB4 : B ≤ w4.heap.size:=by have:=ht4b.1.size;omega
    have hsz4 : w.heap.size ≤ w4.heap.size:=ht4b.1.size
    have hS4 : gS < w4.heap.size:=by omega
    have h44:=hk44.lt;have h54:=hk54.lt
    clear hp4 ht4 ht4b ho4 hk54 hk44 hq4 hw4 hr3 he3 hz8 hc8 HNe HMd HK4d HK5d HQd HKsd HBd HG3 HO3
    obtain ⟨hMB,D,hD,hMI⟩:=HP4.out.map
    obtain ⟨b,hb⟩ : ∃ b,K.has s.all q.cf = b:=⟨_,rfl⟩
    have hkeyb : decide (K.key p q.cf ∈ s.all.map fun e => K.key p e.cf) = b:=by
      rw [← hb,Bool.eq_iff_iff,decide_eq_true_eq,K.has_key HF.out HL.out HI.out HLo.out]
    have hlook0:=seen_look hD hMI HKb.out.2 (by have:=HKb.out.1;omega) b hkeyb
    obtain ⟨A',c',hv',_,_,hrow⟩:=HO4.out.bytesN HKl.out
    injection hv' with e1 _ e3
    subst e1 e3
    have HRow:=kp hrow
    have hc7 : w4.cell? ⟨gS,7,none⟩ = some (.map (some r3.gM)):=HP4.out.blk.cell 7
    have hc8 : w4.cell? ⟨gS,8,none⟩ = some (.slice A3 kl c3):=by have h:=HP4.out.blk.cell 8;rw [show (srC p most r3)[8]? = some (.slice r3.KA r3.kn r3.kc) from rfl,HE3.out.1,HE3.out.2.1,HE3.out.2.2.1] at h;exact h
    have hc5 : w4.cell? ⟨gS,5,none⟩ = some (.slice r3.LA r3.ln r3.lc):=HP4.out.blk.cell 5
    have hc4 : w4.cell? ⟨gS,4,none⟩ = some (.int .i64 most):=HP4.out.blk.cell 4
    have hlook : ∀ k,(Instr.lookup 110 (.map (some r3.gM)) (.string (strOf (K.key p q.cf))) false).run Try.prog (w4.drewN k) = .ok (.bool b) (w4.drewN k):=fun k => hlook0 _ rfl
    have hconv : ∀ k,(convert 26 9 (.slice A3 kl c3)).run Try.prog (w4.drewN k) = .ok (.string (strOf (K.key p q.cf))) (w4.drewN k):=fun k => vW (hrow.below (below_drewN (Below.refl _ _) k)) 26 5 9 c3 Try.underlying26 Try.underlying5 Try.underlying9
    obtain ⟨str,hstr⟩ : ∃ str,strOf (K.key p q.cf) = str:=⟨_,rfl⟩
    rw [hstr] at hlook hconv
    have HStr:=kp hstr
    have hln : s.all.length = r3.ln:=HP4.out.list.1
    have hlm : r3.ln ≤ 5000:=by
      rcases HI.out.len with h1 | h1
      · have:=hmost.1;omega
      · rw [h1] at hln;simp at hln;omega
    have HSml : Kept ((s.all.map fun e => K.key p e.cf).length ≤ 5000):=kp (by rw [List.length_map];omega)
    have HLn:=kp hln
    clear hlook0 hrow hD hMI hkeyb hstr hMB hln
    cases b with
    | true =>
      have HPut : Kept (K.put most s ⟨q.cf,src,who,way,path⟩ = s):=kp (by unfold K.put;rw [if_pos hb])
      clear hb
      go_wp2
      go_quiet (fail)
      go_wp2
      refine bodyPost_ret (results_none rfl _ _ _) rfl ?_
      exact ⟨rfl,r3,qs,by rw [HPut.out];exact ⟨HP4.out.below (below_drewN (Below.refl _ _) _) (Nat.le_refl _),HLeft.out,HM.out.cfs,HM.out.le⟩,HT4.out.trans (SkS.below (below_drewN (Below.refl _ _) _) (Nat.le_refl _))⟩
    | false =>
      have HB:=kp hb
      clear hb
      go_wp2
      go_quiet (fail)
      obtain ⟨w5,hw5⟩ : ∃ y,w4.drewN nq = y:=⟨_,rfl⟩
      have hb45 : Below w4.heap.size w4 w5:=by rw [← hw5];exact below_drewN (Below.refl _ _) nq
      rw [hw5]
      have HP5:=kp (HP4.out.below hb45 (Nat.le_refl _));have HT5:=kp (HT4.out.trans (SkS.below (gS:=gS) (r:=r3) hb45 (Nat.le_refl _)));have HRow5:=kp (HRow.out.below hb45);have HK45:=kp (HK44.out.below hb45 h44);have HK55:=kp (HK54.out.below hb45 h54);have HQ5:=kp (HQ4.out.below hb45 (Nat.le_refl _))
      have hsz45 : w4.heap.size ≤ w5.heap.size:=hb45.size
      have hsz5 : w.heap.size ≤ w5.heap.size:=by have:=hb45.size;omega
      have hS5 : gS < w5.heap.size:=by omega
      have h45:=HK45.out.lt;have h55:=HK55.out.lt;have hB5 : B ≤ w5.heap.size:=by omega
      have hc5 : w5.cell? ⟨gS,5,none⟩ = some (.slice r3.LA r3.ln r3.lc):=HP5.out.blk.cell 5
      have hc4 : w5.cell? ⟨gS,4,none⟩ = some (.int .i64 most):=HP5.out.blk.cell 4
      clear hb45 hw5 hlook hconv hc7 hc8 HP4 HT4 HRow HK44 HK54 HQ4 HO4
      by_cases hfull : most ≤ (r3.ln : Int)
      · have HPut : Kept (K.put most s ⟨q.cf,src,who,way,path⟩ = ⟨s.all,true⟩):=kp (by unfold K.put;rw [if_neg (by rw [HB.out];decide),if_pos (by rw [HLn.out];exact hfull)])
        go_wp2
        go_quiet (fail)
        obtain ⟨w6,hw6⟩ : ∃ y,w5.drewN nq = y:=⟨_,rfl⟩
        have hb56 : Below w5.heap.size w5 w6:=by rw [← hw6];exact below_drewN (Below.refl _ _) _
        rw [hw6]
        have HP6:=kp (HP5.out.below hb56 (Nat.le_refl _));have HT6:=kp (HT5.out.trans (SkS.below (gS:=gS) (r:=r3) hb56 (Nat.le_refl _)))
        have hc9 : w6.cell? ⟨gS,9,none⟩ = some (.bool r3.left):=HP6.out.blk.cell 9
        have hz9 : w6.frozen? ⟨gS,9,none⟩ = false:=HP6.out.blk.frozen 9
        clear hb56 hw6
        go_wp2
        refine bodyPost_ret (results_none rfl _ _ _) rfl ?_
        obtain ⟨hp7,ht7⟩:=HP6.out.less
        exact ⟨rfl,_,qs,by rw [HPut.out];exact ⟨hp7,rfl,HM.out.cfs,HM.out.le⟩,HT6.out.trans ht7⟩
      · have hroom : (r3.ln : Int) < most:=by omega
        have HPut : Kept (K.put most s ⟨q.cf,src,who,way,path⟩ = ⟨s.all ++ [⟨q.cf,src,who,way,path⟩],s.left⟩):=kp (by unfold K.put;rw [if_neg (by rw [HB.out];decide),if_neg (by rw [HLn.out];exact hfull)])
        clear hfull
        go_wp2
        go_quiet (fail)
        obtain ⟨w6,hw6⟩ : ∃ y,w5.drewN nq = y:=⟨_,rfl⟩
        have hb56 : Below w5.heap.size w5 w6:=by rw [← hw6];exact below_drewN (Below.refl _ _) _
        rw [hw6]
        have HP6:=kp (HP5.out.below hb56 (Nat.le_refl _));have HT6:=kp (HT5.out.trans (SkS.below (gS:=gS) (r:=r3) hb56 (Nat.le_refl _)));have HRow6:=kp (HRow5.out.below (hb56.mono hsz45));have HK46:=kp (HK45.out.below hb56 h45);have HK56:=kp (HK55.out.below hb56 h55);have HQ6:=kp (HQ5.out.below hb56 (Nat.le_refl _))
        have hsz46 : w4.heap.size ≤ w6.heap.size:=by have:=hb56.size;omega
        have hsz6 : w.heap.size ≤ w6.heap.size:=by have:=hb56.size;omega
        have hS6 : gS < w6.heap.size:=by omega
        have h46:=HK46.out.lt;have h56:=HK56.out.lt;have hB6 : B ≤ w6.heap.size:=by omega
        clear hb56 hw6 hc5 hc4 HP5 HT5 HRow5 HK45 HK55 HQ5
        go_wp2
        apply jH 9 (.is _ :: .is _ :: .is _ :: .is _ :: .is _ :: .is _ :: .is _ :: .is _ :: .is _ :: [])
          [[],[(0,43)],[(1,44)],[(2,45)],[],[(4,47)],[(5,48)],[(6,49)],[(7,50)],[(3,46),(8,51)]]
          [(0,43),(1,44),(2,45),(3,46),(4,47),(5,48),(6,49),(7,50),(8,51)] (by kernel_rfl) (by kernel_rfl) (by kernel_rfl) (by kernel_rfl) (by kernel_rfl)
        case hob =>
          refine ⟨?o0,?o1,?o2,?o3,?o4,?o5,?o6,?o7,?o8,trivial⟩
          case o0 => intro W hW;change wpList _ _ _ _ _ _;go_wp2;exact j0 rfl rfl rfl
          case o1 => intro W hW;rintro _ rfl;change wpList _ _ _ _ _ _;go_wp2;exact j0 rfl rfl rfl
          case o2 => intro W hW;rintro _ rfl;change wpList _ _ _ _ _ _;go_wp2;exact j0 rfl rfl rfl
          case o3 =>
            intro W hW;rintro _ rfl;change wpList _ _ _ _ _ _
            have hc:=(HP6.out.blk.below hW hS6).cell 7
            rw [show (srC p most r3)[7]? = some (.map (some r3.gM)) from rfl] at hc
            go_wp2;exact j0 rfl rfl rfl
          case o4 => intro W hW;change wpList _ _ _ _ _ _;go_wp2;exact j0 rfl rfl rfl
          case o5 => intro W hW;rintro _ rfl;change wpList _ _ _ _ _ _;go_wp2;exact j0 rfl rfl rfl
          case o6 => intro W hW;rintro _ rfl;change wpList _ _ _ _ _ _;go_wp2;exact j0 rfl rfl rfl
          case o7 =>
            intro W hW;rintro _ rfl;change wpList _ _ _ _ _ _
            have hc:=(HP6.out.blk.below hW hS6).cell 8
            rw [show (srC p most r3)[8]? = some (.slice r3.KA r3.kn r3.kc) from rfl,HE3.out.1,HE3.out.2.1,HE3.out.2.2.1] at hc
            go_wp2;exact j0 rfl rfl rfl
          case o8 =>
            intro W hW;rintro _ rfl;change wpList _ _ _ _ _ _
            have hcv:=vW (HRow6.out.below (hW.mono hsz46)) 26 5 9 c3 Try.underlying26 Try.underlying5 Try.underlying9
            rw [HStr.out] at hcv
            go_wp2;exact j0 rfl rfl rfl
        case hend =>
          intro W hW;rintro _ rfl;rintro _ rfl;rintro _ rfl;rintro _ rfl;rintro _ rfl;rintro _ rfl;rintro _ rfl;rintro _ rfl;rintro _ rfl
          simp only [given,jJ,List.set,List.drop]
          have hp5:=HP6.out.below hW (Nat.le_refl _)
          have HK4w:=kp (HK46.out.below hW h46);have HK5w:=kp (HK56.out.below hW h56);have HQw:=kp (HQ6.out.below hW (Nat.le_refl _));have HTw:=kp (HT6.out.trans (SkS.below (gS:=gS) (r:=r3) hW (Nat.le_refl _)))
          obtain ⟨hB5,D,hD,hMI⟩:=hp5.map
          have hkey5 : keyOf Try.prog 9 (.string str) = some (keyLit (K.key p q.cf)):=by
            rw [← HStr.out,WideMaps.keyOf_string_mk Try.underlying9 (by rw [X2];have:=HKb.out.1;unfold maxLen;omega)]
            simp [strOf,keyLit]
          have HKey5:=kp hkey5;have HD5:=kp hD;have HMI5:=kp hMI;have HPw:=kp hp5
          have hsW:=hW.size
          have h4W : g4 < W.heap.size:=by omega
          have h5W : g5 < W.heap.size:=by omega
          clear hW hD hMI hkey5 hp5 hB5
          go_wp2_with (at_mapUpdate;go_must (refine wpList_mapUpdate_own _ rfl _ _ _ 110 rfl 9 4 (Maps.string_keyed Try.underlying9) Try.underlying110 (plainElem Try.prog 4) r3.gM _ D rfl HD5.out (by have:=HSml.out;unfold maxLen;omega) _ _ (keyLit (K.key p q.cf)) rfl rfl HKey5.out (.lit (.bool true)) [] (plainElem_bool Try.underlying4 true) ?_);intro w7 hown7 hgr7;have HO7:=kp hown7;have HG7:=kp hgr7;clear hown7 hgr7)
          obtain ⟨hp7,ht7⟩:=HPw.out.mapped (m3:=(s.all.map fun e => K.key p e.cf) ++ [K.key p q.cf]) HG7.out (by rw [List.length_append,List.length_singleton];exact HO7.out) (HMI5.out.put HKb.out.2)
          have HP7:=kp hp7;have HT7:=kp (HTw.out.trans ht7);have HK47:=kp (HK4w.out.held ht7.1 ⟨h4W,HN4.out⟩);have HK57:=kp (HK5w.out.held ht7.1 ⟨h5W,HN5.out⟩);have HQ7:=kp (HPw.out.mine ht7.1 (fun k h1 h2 => ⟨h1,h2⟩) HQw.out)
          have hsz7:=ht7.1.size
          have hS7 : gS < w7.heap.size:=by omega
          have h47 : g4 < w7.heap.size:=by omega
          have h57 : g5 < w7.heap.size:=by omega
          have hB7 : B ≤ w7.heap.size:=by omega
          clear hp7 ht7
          simp only [xA]
          go_wp2
          apply zC 7 (.is _ :: .is _ :: .is _ :: .is _ :: .is _ :: .is _ :: Fact.elem 117 [.int .i64 (src : Int),.int .i64 (who : Int),.bool way] :: [])
            [[],[],[(1,53)],[(2,54)],[(3,55)],[],[(5,57)],[(4,56),(6,58)],[(0,52)],[(8,60)],[(9,61),(7,59)]]
            [(0,52),(1,53),(2,54),(3,55),(4,56),(5,57),(6,58)] (o0:=_) (c0:=.pointer (some ⟨gS,0,none⟩)) (hm:=by kernel_rfl) (hok:=by kernel_rfl) (ht:=by kernel_rfl) (hn:=by kernel_rfl) (hev:=by kernel_rfl) (ho0:=rfl) (hsel:=by kernel_rfl) (hfree:=by kernel_rfl) (hrd:=by kernel_rfl) (hw0:=by rfl) (hy0:=fun _ => by rfl) (hR0:=rfl)
          case hob =>
            refine ⟨?o0,?o1,?o2,?o3,?o4,?o5,?o6,trivial⟩
            case o0 => intro W hW;change wpList _ _ _ _ _ _;go_wp2;exact j0 rfl rfl rfl
            case o1 => intro W hW;change wpList _ _ _ _ _ _;go_wp2;exact j0 rfl rfl rfl
            case o2 => intro W hW;rintro _ rfl;change wpList _ _ _ _ _ _;go_wp2;exact j0 rfl rfl rfl
            case o3 => intro W hW;rintro _ rfl;change wpList _ _ _ _ _ _;go_wp2;exact j0 rfl rfl rfl
            case o4 =>
              intro W hW;rintro _ rfl;change wpList _ _ _ _ _ _
              have hc:=(HP7.out.blk.below hW hS7).cell 5
              rw [show (srC p most r3)[5]? = some (.slice r3.LA r3.ln r3.lc) from rfl] at hc
              go_wp2;exact j0 rfl rfl rfl
            case o5 =>
              intro W hW;change wpList _ _ _ _ _ _
              have hb9:=HK57.out.below hW h57
              have hc0:=hb9.cell 0;have hc1:=hb9.cell 1;have hc2:=hb9.cell 2
              simp only [List.getElem?_cons_zero,List.getElem?_cons_succ] at hc0 hc1 hc2
              clear hb9
              go_wp2;exact j0 rfl rfl rfl
            case o6 =>
              intro W hW;rintro _ rfl;change wpList _ _ _ _ _ _
              go_wp2_with ((with_reducible show Sl 58);go_must (refine jI rfl 111 117 (.tmp 57) rfl 3 Try.underlying111 Y3 (by decide) (by decide) (.agg #[.int .i64 (src : Int),.int .i64 (who : Int),.bool way]) [.int .i64 (src : Int),.int .i64 (who : Int),.bool way] rfl rfl rfl ?_);intro g6 w6 hg6 hk6 hb6;have HK6:=kp hk6;have HB6:=kp hb6;clear hk6 hb6)
              exact jG rfl rfl rfl HB6.out ⟨g6,rfl,HK6.out⟩
          case hend =>
            intro W hW;rintro _ rfl;rintro _ rfl;rintro _ rfl;rintro _ rfl;rintro _ rfl;rintro _ rfl;rintro _ ⟨gn,rfl,hbn⟩
            simp only [given,jJ,List.set,List.drop]
            have hp:=HP7.out.below hW (Nat.le_refl _)
            have HPw:=kp hp;have HQw:=kp (HQ7.out.below hW (Nat.le_refl _));have HBn:=kp hbn;have HTw:=kp (HT7.out.trans (SkS.below (gS:=gS) (r:=r3) hW (Nat.le_refl _)));have HK4w:=kp (HK47.out.below hW h47)
            have HO:=kp hp.list
            have hsW:=hW.size
            have HNq:=kp (hp.list.typed hp.blk (by decide))
            have hBW : B ≤ W.heap.size:=by omega
            have h4W : g4 < W.heap.size:=by omega
            clear hW hp hbn
            go_wp2_with (at_builtin;go_must (refine xS rfl (.tmp 56) (.tmp 58) 111 rfl Try.underlying111 origin_info rfl orV_one rfl HO.out ⟨q.cf,src,who,way,path⟩ ⟨gn,0,none⟩ 1 rfl (fun j hj => by rw [Addr.add_mid,Nat.zero_add,HBn.out.cell];exact orV_at ⟨q.cf,src,who,way,path⟩ hj) (by unfold maxLen;omega) (by omega) hBW ?_))
            intro A9 c9 w9 hown9 hgr9
            have HO9:=kp hown9;have HG9:=kp hgr9
            have hkb9:=HPw.out.blk.grew hgr9 HNq.out
            have hc9 : w9.cell? ⟨gS,5,none⟩ = some (.slice r3.LA r3.ln r3.lc):=hkb9.cell 5
            have hz9 : w9.frozen? ⟨gS,5,none⟩ = false:=hkb9.frozen 5
            clear hown9 hgr9 hkb9
            go_wp2
            refine NoPanic.normal ?_
            obtain ⟨hp8,ht8⟩:=HPw.out.listed HG9.out HO9.out
            have hk48:=HK4w.out.held ht8.1 ⟨h4W,HN4.out⟩
            have hq8:=HPw.out.mine ht8.1 (fun k h1 h2 => ⟨h1,h2⟩) HQw.out
            have ht8b:=HTw.out.trans ht8
            obtain ⟨w8,hw8⟩ : ∃ y,w9.setCell ⟨gS,5,none⟩ (.slice A9 (r3.ln + 1) c9) = y:=⟨_,rfl⟩
            obtain ⟨r6,hr6⟩ : ∃ x,({ r3 with LA:=A9,ln:=r3.ln + 1,lc:=c9 } : Sr) = x:=⟨_,rfl⟩
            have HL6 : Kept (r6.left = s.left):=kp (by rw [← hr6];exact HLeft.out)
            have hz : W.heap.size ≤ w8.heap.size:=by rw [← hw8];exact ht8.1.size
            rw [hw8] at hp8 hk48 hq8 ht8b ⊢
            rw [hr6] at hp8 ht8b
            have HP8:=kp hp8;have HK48:=kp hk48;have HQ8:=kp hq8;have HT8:=kp ht8b
            have hS8 : gS < w8.heap.size:=by omega
            have h48:=hk48.lt
            have hB8 : B ≤ w8.heap.size:=by omega
            clear hp8 ht8 hk48 hq8 ht8b hw8 hr6 hc9 hz9
            go_wp2
            apply zC 7 (.is _ :: .is _ :: .is _ :: .is _ :: .is _ :: .is _ :: Fact.elem 91 (pcC q) :: [])
              [[],[],[(1,63)],[(2,64)],[(3,65)],[],[(5,67)],[(4,66),(6,68)],[(0,62)],[(8,70)],[(9,71),(7,69)]]
              [(0,62),(1,63),(2,64),(3,65),(4,66),(5,67),(6,68)] (o0:=_) (c0:=.pointer (some ⟨gS,0,none⟩)) (hm:=by kernel_rfl) (hok:=by kernel_rfl) (ht:=by kernel_rfl) (hn:=by kernel_rfl) (hev:=by kernel_rfl) (ho0:=rfl) (hsel:=by kernel_rfl) (hfree:=by kernel_rfl) (hrd:=by kernel_rfl) (hw0:=by rfl) (hy0:=fun _ => by rfl) (hR0:=rfl)
            case hob =>
              refine ⟨?o0,?o1,?o2,?o3,?o4,?o5,?o6,trivial⟩
              case o0 => intro W hW;change wpList _ _ _ _ _ _;go_wp2;exact j0 rfl rfl rfl
              case o1 => intro W hW;change wpList _ _ _ _ _ _;go_wp2;exact j0 rfl rfl rfl
              case o2 => intro W hW;rintro _ rfl;change wpList _ _ _ _ _ _;go_wp2;exact j0 rfl rfl rfl
              case o3 => intro W hW;rintro _ rfl;change wpList _ _ _ _ _ _;go_wp2;exact j0 rfl rfl rfl
              case o4 =>
                intro W hW;rintro _ rfl;change wpList _ _ _ _ _ _
                have hc:=(HP8.out.blk.below hW hS8).cell 6
                rw [show (srC p most r6)[6]? = some (.slice r6.QA r6.qn r6.qc) from rfl] at hc
                go_wp2;exact j0 rfl rfl rfl
              case o5 =>
                intro W hW;change wpList _ _ _ _ _ _
                go_must (refine j4 rfl 91 (.tmp 4) rfl g4 rfl _ (pcC q) _ (HK48.out.below hW h48) Try.underlying91 rfl (by rw [H17.out];exact jC) ?_)
                go_wp2;exact j0 rfl rfl rfl
              case o6 =>
                intro W hW;rintro _ rfl;change wpList _ _ _ _ _ _
                go_wp2_with ((with_reducible show Sl 68);go_must (refine jI rfl 112 91 (.tmp 67) rfl 17 Try.underlying112 conf_cells (by decide) (by decide) (.agg (pcC q).toArray) (pcC q) rfl rfl H17.out ?_);intro g6 w6 hg6 hk6 hb6;have HK6:=kp hk6;have HB6:=kp hb6;clear hk6 hb6)
                exact jG rfl rfl rfl HB6.out ⟨g6,rfl,HK6.out⟩
            case hend =>
              intro W hW;rintro _ rfl;rintro _ rfl;rintro _ rfl;rintro _ rfl;rintro _ rfl;rintro _ rfl;rintro _ ⟨gn,rfl,hbn⟩
              simp only [given,jJ,List.set,List.drop]
              have hp:=HP8.out.below hW (Nat.le_refl _)
              have HPw:=kp hp;have HQw:=kp (HQ8.out.below hW (Nat.le_refl _));have HBn:=kp hbn;have HTw:=kp (HT8.out.trans (SkS.below (gS:=gS) (r:=r6) hW (Nat.le_refl _)))
              have HO:=kp hp.opn
              have hqn : qs.length = r6.qn:=hp.opn.1
              have hsW:=hW.size
              have hSW : gS < W.heap.size:=by omega
              have hqb : qs.length ≤ s.all.length:=by
                have h1:=congrArg List.length HM.out.cfs
                rw [List.length_map,List.length_map,List.length_drop] at h1
                omega
              have hqs : r6.qn ≤ 5000:=by have:=HLn.out;omega
              have HNq:=kp (hp.opn.typed hp.blk (by decide))
              have hBW : B ≤ W.heap.size:=by omega
              clear hW hp hbn hqn hqb
              go_wp2_with (at_builtin;go_must (refine xS rfl (.tmp 66) (.tmp 68) 112 rfl Try.underlying112 conf_info rfl cfV_one rfl HO.out q ⟨gn,0,none⟩ 1 rfl (fun j hj => by rw [Addr.add_mid,Nat.zero_add,HBn.out.cell];exact cfV_at H16.out hj) (by unfold maxLen;omega) (by omega) hBW ?_))
              intro A9 c9 w9 hown9 hgr9
              have HO9:=kp hown9;have HG9:=kp hgr9
              have hkb9:=HPw.out.blk.grew hgr9 HNq.out
              have hc9 : w9.cell? ⟨gS,6,none⟩ = some (.slice r6.QA r6.qn r6.qc):=hkb9.cell 6
              have hz9 : w9.frozen? ⟨gS,6,none⟩ = false:=hkb9.frozen 6
              clear hown9 hgr9 hkb9
              go_wp2
              refine NoPanic.normal ?_
              go_wp2
              go_end0
              obtain ⟨hp9,ht9⟩:=HPw.out.opened HG9.out HO9.out (fun x hx => by
                rcases List.mem_append.1 hx with h | h
                · exact HPw.out.confs x h
                · rw [List.mem_singleton.1 h];exact ⟨HQw.out,H16.out⟩)
              refine ⟨rfl,_,qs ++ [q],?_,HTw.out.trans ht9⟩
              rw [HPut.out]
              refine ⟨by rw [List.map_append];exact hp9,HL6.out,?_,by have:=HM.out.le;simp;omega⟩
              rw [List.map_append,HM.out.cfs,List.drop_append_of_le_length HM.out.le,List.map_append];rfl
end Go.Proofs.Ytcbfghcdbmlneaa
