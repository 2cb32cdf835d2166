/- What a config goes on to, walked: goOn. -/
import Derived.Test.YtcbfghcdbmlneaaPk32
import Derived.Test.YtcbfghcdbmlneaaPk19
import Derived.Test.YtcbfghcdbmlneaaPk17
import Derived.WalkMore
namespace Go.Proofs.Ytcbfghcdbmlneaa
open Go.RowKit
theorem JZ : (Try.prog.info? 56).map (·.zero) = some (some (.agg ([.int .i64 0,.bool false] : List Value).toArray)):=by kernel_rfl
theorem zY : (Try.prog.info? 4).map (·.size) = some 1:=by kernel_rfl
theorem qW : (Try.prog.info? 56).map (·.size) = some 2:=by kernel_rfl
section
variable {w w' : World} {B gS : Nat} {p : Pg} {most : Int} {r r' : Sr} {s : K.Sk} {i : Nat} {qs : List Pc} {l : List K.En} {m : List (List Nat)}
theorem SkP.prog {Bp : Nat} (h : SkP w B gS p most r l m qs) (hs : SkS w w' gS r r') {p2 : Pg} (hp : p2.Ok w Bp) (hB : Bp ≤ B) (hw : B ≤ w.heap.size) : p2.Ok w' Bp :=
  hp.keep fun _ ha => hs.1.cell _ ⟨by omega,fun e => by have:=(h.lt e).1;omega⟩
theorem SkS.box {g : Nat} {t : TypeId} {cs : List Value} (hs : SkS w w' gS r r') (hb : Blk w g t cs) (hn : ¬ SkT r gS g) : Blk w' g t cs ∧ ¬ SkT r' gS g :=
  ⟨hb.held hs.1 ⟨hb.lt,hn⟩,fun e => by
    rcases hs.2 g e with h | h
    · exact hn h
    · have:=hb.lt;omega⟩
theorem SkP.other {g : Nat} (h : SkP w B gS p most r l m qs) (hg : w.heap.size ≤ g) : ¬ SkT r gS g:=fun e => by have:=(h.lt e).2;omega
end
set_option maxRecDepth 100000 in
set_option maxHeartbeats 3200000 in
theorem sk_goOn (B Bp gS : Nat) (p : Pg) (hf : Fine p) (hl : p.fns.length = p.len) (most : Int) (hmost : most ≤ 5000 ∧ -9223372036854775808 ≤ most) (r : Sr) (s : K.Sk) (i : Nat) (qs : List Pc) (w : World) (hm : SkM w B gS p most r s i qs) (hi : K.Inv p most s)
    (q : Pc) (hq : Mine w B q) (hlo : K.Low p q.cf) (j : Nat) (e : K.En) (he : s.all[j]? = some e) (hcf : q.cf = e.cf) (hp : p.Ok w Bp) (hBpB : Bp ≤ B) (hB : B ≤ w.heap.size) :
    Calls Try.prog 55 #[.pointer (some ⟨gS,0,none⟩),.int .i64 (j : Int),pcA q] w fun e' w' => e' = .returned (.tuple #[]) ∧ ∃ r' qs',SkM w' B gS p most r' (K.goOn p most j e s) i qs' ∧ SkS w w' gS r r':=by
  have hg : M.Good p q.cf:=by rw [hcf];exact hi.good e (List.mem_of_getElem? he)
  have H17:=kp (jW hg.owns)
  have HM:=kp hm;have HI:=kp hi;have HQ:=kp hq;have HG:=kp hg;have HLo:=kp hlo;have HF:=kp hf;have HL:=kp hl;have HE:=kp he;have HCf:=kp hcf;have HP:=kp hp
  have hS0:=hm.pt.blk.lt
  have hn8 : q.len ≤ 8:=by rw [← hq.ok.len];exact hg.most
  have HNl : Kept (e.cf.ths.length = q.len):=kp (by rw [← hcf];exact hq.ok.len)
  clear hm hi hq hg hlo hf hl he hcf hp
  rw [qS]
  go_enter Try.func55,Try.ntmps55
  go_wp2_with (first
    | ((with_reducible refine j6 rfl 91 (.tmp 2) rfl (pcC q) rfl ?_);intro g5 w2 hg5 hk2 hw2;have HK52:=kp hk2;have HW2:=kp hw2;have hs2:=hw2.size;have h52:=hk2.lt;have hc5 : w2.cell? ⟨g5,0,none⟩ = some (.slice q.A q.len q.cap):=hk2.cell 0;clear hk2 hw2))
  have HM2:=kp (HM.out.below HW2.out (Nat.le_refl _));have HQ2:=kp (HQ.out.below HW2.out (Nat.le_refl _));have HP2:=kp (HP.out.below (HW2.out.mono (by omega)))
  have hN52 : ¬ SkT r gS g5:=HM.out.pt.other hg5
  have HN52:=kp hN52
  have hB2 : B ≤ w2.heap.size:=by omega
  go_step3
  go_wp2
  go_step3
  go_wp2
  clear hN52 hc5
  go_loopw [15] (fun v15 wr => ∃ (k : Nat) (r1 : Sr) (qs1 : List Pc),k ≤ q.len ∧ v15 = .int .i64 (k : Int) ∧ SkM wr B gS p most r1 (K.thrs p most j e s k) i qs1 ∧ SkS w2 wr gS r r1) (fun v15 _ => q.len - (intOf v15).toNat)
  case atStart => exact ⟨0,r,qs,by omega,rfl,HM2.out,SkS.below (Below.refl _ _) (Nat.le_refl _)⟩
  case round =>
    obtain ⟨k,r1,qs1,hk,rfl,hm1,hs1⟩:=hrel
    obtain ⟨hk5,hn5⟩:=hs1.box HK52.out HN52.out
    have hq1:=HM2.out.pt.mine hs1.1 (fun k h1 h2 => ⟨h1,h2⟩) HQ2.out
    have hp1:=HM2.out.pt.prog hs1 HP2.out hBpB hB2
    obtain ⟨hi0,hj0⟩:=K.inv_goOn HF.out HL.out HI.out HE.out k
    have hz1:=hs1.1.size
    have HM1:=kp hm1;have HS1:=kp hs1;have HK5r:=kp hk5;have HN5r:=kp hn5;have HQr:=kp hq1;have HPr:=kp hp1;have HI0:=kp hi0;have HJ0:=kp hj0
    have hSr : gS < wr.heap.size:=hm1.pt.blk.lt
    have h5r:=hk5.lt
    have hBr : B ≤ wr.heap.size:=by omega
    have hBpr : Bp ≤ wr.heap.size:=by omega
    clear hm1 hs1 hk5 hn5 hq1 hp1 hi0 hj0
    by_cases hlt : k < q.len
    · have HKI : Kept (I64 (k : Int)):=kp (by unfold I64;omega)
      cases hen : M.enabled p q.cf (k : Int) with
      | false =>
        have HEn:=kp hen
        have HT : Kept (K.thrs p most j e s (k + 1) = K.thrs p most j e s k):=kp (by
          show K.one p most j e (K.thrs p most j e s k) k = _
          unfold K.one
          rw [if_neg]
          rw [← HCf.out]
          intro h
          unfold M.enabled at hen
          rw [Int.toNat_natCast,h] at hen
          simp at hen)
        clear hen
        go_wp2
        apply jH 8 (.is _ :: .is _ :: .is _ :: .is _ :: .is _ :: .is _ :: .is _ :: .is _ :: [])
          [[],[],[(1,19)],[(2,20)],[(3,21)],[],[(0,18),(4,22),(5,23)],[(6,24)]]
          [(0,18),(1,19),(2,20),(3,21),(4,22),(5,23),(6,24),(7,25)] (by kernel_rfl) (by kernel_rfl) (by kernel_rfl) (by kernel_rfl) (by kernel_rfl)
        case hob =>
          refine ⟨?o0,?o1,?o2,?o3,?o4,?o5,?o6,?o7,trivial⟩
          case o0 =>
            intro W hW;change wpList _ _ _ _ _ _
            go_must (refine j4 rfl 91 (.tmp 5) rfl g5 rfl _ (pcC q) _ (HK5r.out.below hW h5r) Try.underlying91 rfl (by rw [H17.out];exact jC) ?_)
            go_wp2;exact j0 rfl rfl rfl
          case o1 => intro W hW;change wpList _ _ _ _ _ _;go_wp2;exact j0 rfl rfl rfl
          case o2 => intro W hW;rintro _ rfl;change wpList _ _ _ _ _ _;go_wp2;exact j0 rfl rfl rfl
          case o3 => intro W hW;rintro _ rfl;change wpList _ _ _ _ _ _;go_wp2;exact j0 rfl rfl rfl
          case o4 =>
            intro W hW;rintro _ rfl;change wpList _ _ _ _ _ _
            have hb9:=HM1.out.pt.blk.below hW hSr
            have hc0:=hb9.cell 0;have hc1:=hb9.cell 1;have hc2:=hb9.cell 2;have hc3:=hb9.cell 3
            simp only [srC,List.getElem?_cons_zero,List.getElem?_cons_succ] at hc0 hc1 hc2 hc3
            clear hb9
            go_wp2;exact j0 rfl rfl rfl
          case o5 => intro W hW;change wpList _ _ _ _ _ _;go_wp2;exact j0 rfl rfl rfl
          case o6 =>
            intro W hW;rintro _ rfl;rintro _ rfl;rintro _ rfl;change wpList _ _ _ _ _ _
            have hsW:=hW.size
            go_wp2_with fail
            refine (yI W.heap.size p HF.out q W (xR (HPr.out.below (hW.mono hBpr)) (by omega)) (HQr.out.below hW (Nat.le_refl _)).ok HG.out (Nat.le_refl _) (k : Int) HKI.out false HEn.out).mono ?_
            rintro e w2 ⟨rfl,hb2⟩
            have HB2:=kp hb2;clear hb2
            go_wp2
            exact jG rfl rfl rfl HB2.out rfl
          case o7 => intro W hW;rintro _ rfl;change wpList _ _ _ _ _ _;go_wp2;exact j0 rfl rfl rfl
        case hend =>
          intro W hW;rintro _ rfl;rintro _ rfl;rintro _ rfl;rintro _ rfl;rintro _ rfl;rintro _ rfl;rintro _ rfl;rintro _ rfl
          simp only [given,jJ,List.set,List.drop]
          have HMw:=kp (HM1.out.below hW (Nat.le_refl _));have HSw:=kp (HS1.out.trans (SkS.below (gS:=gS) (r:=r1) hW (Nat.le_refl _)))
          clear hW
          go_wp2
          go_roundw
          case rel => exact ⟨k + 1,r1,qs1,by omega,by go_num,by rw [HT.out];exact HMw.out,HSw.out⟩
          case measure => simp [intOf];omega
      | true =>
        have HEn:=kp hen
        have HEk : Kept (M.enabledN p e.cf k = true):=kp (by
          have h:=(M.enabled_split hen).2
          rw [Int.toNat_natCast] at h
          rw [← HCf.out];exact h)
        have HLv : Kept (M.lives q.cf (k : Int) = true):=kp (by rw [M.lives_nat,HCf.out];exact M.enabled_lives HEk.out)
        obtain ⟨x,hx⟩ : ∃ x,atNd p q.cf (k : Int) = x:=⟨_,rfl⟩
        have hnx : M.node p e.cf k = x:=by
          unfold atNd at hx
          rw [if_pos HLv.out,Int.toNat_natCast,HCf.out] at hx
          exact hx
        have HX:=kp hx
        obtain ⟨s0,hs0⟩ : ∃ s0,K.thrs p most j e s k = s0:=⟨_,rfl⟩
        have HOne8 : Kept (x.kind = 8 → K.thrs p most j e s (k + 1) = K.put most (K.put most s0 (K.next p j e k false)) (K.next p j e k true)):=kp (fun h8 => by
          show K.one p most j e (K.thrs p most j e s k) k = _
          unfold K.one
          rw [if_pos HEk.out,hnx,if_pos h8,hs0])
        have HOneN : Kept (x.kind ≠ 8 → K.thrs p most j e s (k + 1) = K.put most s0 (K.next p j e k false)):=kp (fun h8 => by
          show K.one p most j e (K.thrs p most j e s k) k = _
          unfold K.one
          rw [if_pos HEk.out,hnx,if_neg h8,hs0])
        rw [hs0] at HM1 HI0 HJ0
        clear hen hx hnx hs0
        go_wp2
        apply jH 8 (.is _ :: .is _ :: .is _ :: .is _ :: .is _ :: .is _ :: .is _ :: .is _ :: [])
          [[],[],[(1,19)],[(2,20)],[(3,21)],[],[(0,18),(4,22),(5,23)],[(6,24)]]
          [(0,18),(1,19),(2,20),(3,21),(4,22),(5,23),(6,24),(7,25)] (by kernel_rfl) (by kernel_rfl) (by kernel_rfl) (by kernel_rfl) (by kernel_rfl)
        case hob =>
          refine ⟨?o0,?o1,?o2,?o3,?o4,?o5,?o6,?o7,trivial⟩
          case o0 =>
            intro W hW;change wpList _ _ _ _ _ _
            go_must (refine j4 rfl 91 (.tmp 5) rfl g5 rfl _ (pcC q) _ (HK5r.out.below hW h5r) Try.underlying91 rfl (by rw [H17.out];exact jC) ?_)
            go_wp2;exact j0 rfl rfl rfl
          case o1 => intro W hW;change wpList _ _ _ _ _ _;go_wp2;exact j0 rfl rfl rfl
          case o2 => intro W hW;rintro _ rfl;change wpList _ _ _ _ _ _;go_wp2;exact j0 rfl rfl rfl
          case o3 => intro W hW;rintro _ rfl;change wpList _ _ _ _ _ _;go_wp2;exact j0 rfl rfl rfl
          case o4 =>
            intro W hW;rintro _ rfl;change wpList _ _ _ _ _ _
            have hb9:=HM1.out.pt.blk.below hW hSr
            have hc0:=hb9.cell 0;have hc1:=hb9.cell 1;have hc2:=hb9.cell 2;have hc3:=hb9.cell 3
            simp only [srC,List.getElem?_cons_zero,List.getElem?_cons_succ] at hc0 hc1 hc2 hc3
            clear hb9
            go_wp2;exact j0 rfl rfl rfl
          case o5 => intro W hW;change wpList _ _ _ _ _ _;go_wp2;exact j0 rfl rfl rfl
          case o6 =>
            intro W hW;rintro _ rfl;rintro _ rfl;rintro _ rfl;change wpList _ _ _ _ _ _
            have hsW:=hW.size
            go_wp2_with fail
            refine (yI W.heap.size p HF.out q W (xR (HPr.out.below (hW.mono hBpr)) (by omega)) (HQr.out.below hW (Nat.le_refl _)).ok HG.out (Nat.le_refl _) (k : Int) HKI.out true HEn.out).mono ?_
            rintro e w2 ⟨rfl,hb2⟩
            have HB2:=kp hb2;clear hb2
            go_wp2
            exact jG rfl rfl rfl HB2.out rfl
          case o7 => intro W hW;rintro _ rfl;change wpList _ _ _ _ _ _;go_wp2;exact j0 rfl rfl rfl
        case hend =>
          intro W hW;rintro _ rfl;rintro _ rfl;rintro _ rfl;rintro _ rfl;rintro _ rfl;rintro _ rfl;rintro _ rfl;rintro _ rfl
          simp only [given,jJ,List.set,List.drop]
          have hbw0:=hW.size
          have HMw:=kp (HM1.out.below hW (Nat.le_refl _));have HSw:=kp (HS1.out.trans (SkS.below (gS:=gS) (r:=r1) hW (Nat.le_refl _)));have HK5w:=kp (HK5r.out.below hW h5r);have HQw:=kp (HQr.out.below hW (Nat.le_refl _));have HPw:=kp (HPr.out.below (hW.mono hBpr))
          clear hW HM1 HS1 HK5r HQr HPr
          obtain ⟨wr,hwr⟩ : ∃ y,y = W:=⟨_,rfl⟩
          subst hwr
          have HM1:=kp HMw.out;have HS1:=kp HSw.out;have HK5r:=kp HK5w.out;have HQr:=kp HQw.out;have HPr:=kp HPw.out
          clear HMw HSw HK5w HQw HPw
          have hSr : gS < wr.heap.size:=by omega
          have h5r : g5 < wr.heap.size:=by omega
          have hBr : B ≤ wr.heap.size:=by omega
          have hBpr : Bp ≤ wr.heap.size:=by omega
          go_wp2
          apply XV (Fill wr.heap.size 97 (nodeGood x)) [(11,7)] (.is (pcA q) :: .is _ :: .is _ :: .is _ :: .is (pgA p) :: .is (.int .i64 (k : Int)) :: .is (.tuple #[ndA x,.bool true]) :: .is (.tuple #[ndA x,.bool true]) :: .is (ndA x) :: .is (.bool true) :: (.var (lN wr.heap.size x)) :: (.good (lN wr.heap.size x)) :: .is (.bool true) :: [])
            [[],[],[(1,28)],[(2,29)],[(3,30)],[],[(0,27),(4,31),(5,32)],[(6,33)],[(7,26)],[(7,26)],[],[(10,7),(8,34)],[(9,35)]]
            [(0,27),(1,28),(2,29),(3,30),(4,31),(5,32),(6,33),(7,26),(8,34),(9,35),(10,7),(12,8)] (by kernel_rfl) (by kernel_rfl) (by kernel_rfl) (by kernel_rfl) (Fill.ok (lN wr.heap.size x))
          case hob =>
            refine ⟨?o0,?o1,?o2,?o3,?o4,?o5,?o6,?o7,?o8,?o9,?o10,?o11,?o12,trivial⟩
            case o0 =>
              intro W hF;have hW:=hF.below;clear hF;change wpList _ _ _ _ _ _
              go_must (refine j4 rfl 91 (.tmp 5) rfl g5 rfl _ (pcC q) _ (HK5r.out.below hW h5r) Try.underlying91 rfl (by rw [H17.out];exact jC) ?_)
              go_wp2;exact qG (Fill.ok (lN wr.heap.size x)) rfl rfl rfl
            case o1 => intro W hF;have hW:=hF.below;clear hF;change wpList _ _ _ _ _ _;go_wp2;exact qG (Fill.ok (lN wr.heap.size x)) rfl rfl rfl
            case o2 => intro W hF;have hW:=hF.below;clear hF;rintro _ rfl;change wpList _ _ _ _ _ _;go_wp2;exact qG (Fill.ok (lN wr.heap.size x)) rfl rfl rfl
            case o3 => intro W hF;have hW:=hF.below;clear hF;rintro _ rfl;change wpList _ _ _ _ _ _;go_wp2;exact qG (Fill.ok (lN wr.heap.size x)) rfl rfl rfl
            case o4 =>
              intro W hF;have hW:=hF.below;clear hF;rintro _ rfl;change wpList _ _ _ _ _ _
              have hb9:=HM1.out.pt.blk.below hW hSr
              have hc0:=hb9.cell 0;have hc1:=hb9.cell 1;have hc2:=hb9.cell 2;have hc3:=hb9.cell 3
              simp only [srC,List.getElem?_cons_zero,List.getElem?_cons_succ] at hc0 hc1 hc2 hc3
              clear hb9
              go_wp2;exact qG (Fill.ok (lN wr.heap.size x)) rfl rfl rfl
            case o5 => intro W hF;have hW:=hF.below;clear hF;change wpList _ _ _ _ _ _;go_wp2;exact qG (Fill.ok (lN wr.heap.size x)) rfl rfl rfl
            case o6 =>
              intro W hF;have hW:=hF.below;clear hF;rintro _ rfl;rintro _ rfl;rintro _ rfl;change wpList _ _ _ _ _ _
              have hsW:=hW.size
              go_wp2_with fail
              refine (yN W.heap.size p HF.out q W (xR (HPr.out.below (hW.mono hBpr)) (by omega)) (HQr.out.below hW (Nat.le_refl _)).ok HG.out (Nat.le_refl _) (k : Int) HKI.out true HLv.out x HX.out).mono ?_
              rintro e w2 ⟨rfl,hb2⟩
              have HB2:=kp hb2;clear hb2
              go_wp2
              exact LR rfl rfl rfl (Fill.of_below HB2.out) rfl
            case o7 => intro W hF;have hW:=hF.below;clear hF;rintro _ rfl;change wpList _ _ _ _ _ _;go_wp2;exact qG (Fill.ok (lN wr.heap.size x)) rfl rfl rfl
            case o8 => intro W hF;have hW:=hF.below;clear hF;rintro _ rfl;change wpList _ _ _ _ _ _;go_wp2;exact qG (Fill.ok (lN wr.heap.size x)) rfl rfl rfl
            case o9 => intro W hF;have hW:=hF.below;clear hF;rintro _ rfl;change wpList _ _ _ _ _ _;go_wp2;exact qG (Fill.ok (lN wr.heap.size x)) rfl rfl rfl
            case o10 =>
              intro W hF;have hW:=hF.below;clear hF;change wpList _ _ _ _ _ _
              have hsW:=hW.size
              go_must (refine j7 rfl 97 rfl (ndC ⟨0,0,0,0⟩) l0 ?_)
              intro gx wx hgx hkx hbx
              have HKx:=kp hkx;have HGx:=kp hgx;have HBx:=kp hbx
              clear hgx hkx hbx
              go_wp2
              exact LR rfl rfl rfl (Fill.of_below HBx.out) ⟨gx,_,rfl,by have:=HGx.out;omega,HKx.out,rfl⟩
            case o11 =>
              intro W hF;have hW:=hF.below;clear hF;rintro _ ⟨gN,cn,rfl,hgN,hkn,hln⟩;rintro _ rfl;change wpList _ _ _ _ _ _
              have HKn:=kp hkn;have HGn:=kp hgN;have hl4 : (ndC x).length = cn.length:=by rw [hln];rfl
              go_must (refine j5 rfl 97 (.tmp 7) (.tmp 34) rfl gN (ndC x) rfl rfl _ _ hkn jO hl4.symm (l5 x) ?_)
              intro W2 hk2 hg2 _
              have HK2:=kp hk2;have HG2:=kp hg2
              clear hk2 hg2 hkn hln hl4 hW hgN
              have HGood : Kept (nodeGood x (ndC x) W2):=kp rfl
              have HFill : Kept (Fill wr.heap.size 97 (nodeGood x) W W2):=kp (Fill.of_store HG2.out HGn.out HKn.out HK2.out HGood.out)
              go_wp2
              exact XO (d:=7) rfl rfl rfl HFill.out ⟨gN,_,rfl,HGn.out,HK2.out,HGood.out⟩
            case o12 => intro W hF;have hW:=hF.below;clear hF;rintro _ rfl;change wpList _ _ _ _ _ _;go_wp2;exact qG (Fill.ok (lN wr.heap.size x)) rfl rfl rfl
          case hend =>
            intro W hF;have hW:=hF.below;clear hF;rintro _ rfl;rintro _ rfl;rintro _ rfl;rintro _ rfl;rintro _ rfl;rintro _ rfl;rintro _ rfl;rintro _ rfl;rintro _ rfl;rintro _ rfl;rintro _ ⟨gN,cn,rfl,hgN,hkn,hln⟩;rintro _ rfl
            simp only [tgiven,tends,jJ,List.set]
            rintro ⟨g7,cn2,e2,hg7,hkN2,hgood2⟩
            have hk7 : Blk W g7 97 (ndC x):=by have h : cn2 = ndC x:=hgood2;rw [← h];exact hkN2
            have e3 : gN = g7:=by injection e2 with e2;injection e2 with e2;injection e2
            subst e3
            clear hkn hln hkN2 hg7 hgood2 e2
            obtain ⟨wb,hwb⟩ : ∃ y,y = W:=⟨_,rfl⟩
            subst hwb
            have HK7b:=kp hk7;have HBb:=kp hW
            have hg7:=hgN
            clear hW hk7 hgN
            have hzb:=HBb.out.size
            have HMb:=kp (HM1.out.below HBb.out (Nat.le_refl _));have HSb:=kp (HS1.out.trans (SkS.below (gS:=gS) (r:=r1) HBb.out (Nat.le_refl _)));have HK5b:=kp (HK5r.out.below HBb.out h5r);have HQb:=kp (HQr.out.below HBb.out (Nat.le_refl _));have HPb:=kp (HPr.out.below (HBb.out.mono hBpr))
            have HN7b : Kept (¬ SkT r1 gS gN):=kp (HM1.out.pt.other hg7)
            have HN5b:=kp HN5r.out
            have hBb : B ≤ wb.heap.size:=by omega
            clear hg7
            obtain ⟨g7,h7e⟩ : ∃ y,y = gN:=⟨_,rfl⟩
            subst h7e
            try simp only [xA]
            go_wp2

            go_loopw [37] (fun v37 wr => ∃ (i2 : Nat) (s1 : K.Sk) (r2 : Sr) (qs2 : List Pc),v37 = .int .i64 (i2 : Int) ∧ SkM wr B gS p most r2 s1 i qs2 ∧ SkS wb wr gS r1 r2 ∧ K.Inv p most s1 ∧ s1.all[j]? = some e ∧ ((i2 = 0 ∧ s1 = s0) ∨ (i2 = 1 ∧ s1 = K.put most s0 (K.next p j e k false)) ∨ (i2 = 2 ∧ x.kind = 8 ∧ s1 = K.put most (K.put most s0 (K.next p j e k false)) (K.next p j e k true)))) (fun v37 _ => 2 - (intOf v37).toNat)
            case atStart => exact ⟨0,s0,r1,qs1,rfl,HMb.out,SkS.below (Below.refl _ _) (Nat.le_refl _),HI0.out,HJ0.out,.inl ⟨rfl,rfl⟩⟩
            case round =>
              obtain ⟨i2,s1,r2,qs2,rfl,hm6,hs6,hi1,hj1,hst⟩:=hrel
              obtain ⟨w6,rfl⟩ : ∃ y,y = wr:=⟨_,rfl⟩
              obtain ⟨hk7,hn7⟩:=hs6.box HK7b.out HN7b.out
              obtain ⟨hk5,hn5⟩:=hs6.box HK5b.out HN5b.out
              have hq6:=HMb.out.pt.mine hs6.1 (fun k h1 h2 => ⟨h1,h2⟩) HQb.out
              have hp6:=HMb.out.pt.prog hs6 HPb.out hBpB hBb
              have hz6:=hs6.1.size
              have HM6:=kp hm6;have HS6:=kp hs6;have HI1:=kp hi1;have HJ1:=kp hj1;have HK76:=kp hk7;have HN76:=kp hn7;have HK56:=kp hk5;have HQ6:=kp hq6;have HP6:=kp hp6
              have h56:=hk5.lt;have h76:=hk7.lt
              have hBp6 : Bp ≤ w6.heap.size:=by omega
              have hB6 : B ≤ w6.heap.size:=by omega
              have hS6 : gS < w6.heap.size:=hm6.pt.blk.lt
              clear hm6 hs6 hi1 hj1 hk7 hn7 hk5 hn5 hq6 hp6
              rcases hst with ⟨rfl,hs1⟩ | ⟨rfl,hs1⟩ | ⟨rfl,hk8,hs1⟩
              · have HE1:=kp hs1
                clear hs1
                go_wp2_with (first
                  | ((with_reducible show Sl 39);go_must (refine qZ rfl 162 (.tmp 36) (.tmp 37) rfl 2 4 Try.underlying162 _ Try.underlying4 rfl zY [.bool false,.bool true] rfl 0 rfl (by decide) (.bool false) rfl ?_))
                  | ((with_reducible show Sl 11);go_must (refine j7 rfl 56 rfl [.int .i64 0,.bool false] JZ ?_);intro g11 w7 hg11 hk7 hw7;have HK11a:=kp hk7;have HW7:=kp hw7;have HG11:=kp hg11;have hs7:=hw7.size;clear hk7 hw7 hg11)
                  | ((with_reducible show Sn);go_must (refine j5 rfl 56 (.tmp 11) (.tmp 48) rfl g11 [.int .i64 (k : Int),.bool false] rfl rfl _ _ HK11a.out qW rfl (by simp [Value.oneCell']) ?_);intro w8 hk8 hg8 hz8;have HK11:=kp hk8;have HW8:=kp (HW7.out.grown hg8 hs7 (fun k e => by cases e;exact HG11.out));have hs8:=HW8.out.size;have h11:=hk8.lt;clear hk8 hg8 hz8))
                have HM8:=kp (HM6.out.below HW8.out (Nat.le_refl _));have HK58:=kp (HK56.out.below HW8.out h56);have HQ8:=kp (HQ6.out.below HW8.out (Nat.le_refl _));have HP8:=kp (HP6.out.below (HW8.out.mono hBp6));have HK78:=kp (HK76.out.below HW8.out h76);have HS8:=kp (HS6.out.trans (SkS.below (gS:=gS) (r:=r2) HW8.out (Nat.le_refl _)))
                have hS8 : gS < w8.heap.size:=by omega
                have h58 : g5 < w8.heap.size:=by omega
                have h78 : g7 < w8.heap.size:=by omega
                have hBp8 : Bp ≤ w8.heap.size:=by omega
                have hB8 : B ≤ w8.heap.size:=by omega
                try simp only [xA]
                go_wp2
                apply jH 11 (.is _ :: .is _ :: .is _ :: .is _ :: .is _ :: .is _ :: .is _ :: Fact.stepped w8.heap.size (M.step p q.cf (k : Int) false) :: .is _ :: .is _ :: .is _ :: [])
                  [[],[],[],[(2,51)],[(3,52)],[(4,53)],[],[(1,50),(5,54),(6,55)],[],[],[(8,57),(9,58)],[(0,49),(7,56),(10,59)]]
                  [(0,49),(1,50),(2,51),(3,52),(4,53),(5,54),(6,55),(7,56),(8,57),(9,58),(10,59)] (by kernel_rfl) (by kernel_rfl) (by kernel_rfl) (by kernel_rfl) (by kernel_rfl)
                case hob =>
                  refine ⟨?o0,?o1,?o2,?o3,?o4,?o5,?o6,?o7,?o8,?o9,?o10,trivial⟩
                  case o0 => intro W hW;change wpList _ _ _ _ _ _;go_wp2;exact j0 rfl rfl rfl
                  case o1 =>
                    intro W hW;change wpList _ _ _ _ _ _
                    go_must (refine j4 rfl 91 (.tmp 5) rfl g5 rfl _ (pcC q) _ (HK58.out.below hW h58) Try.underlying91 rfl (by rw [H17.out];exact jC) ?_)
                    go_wp2;exact j0 rfl rfl rfl
                  case o2 => intro W hW;change wpList _ _ _ _ _ _;go_wp2;exact j0 rfl rfl rfl
                  case o3 => intro W hW;rintro _ rfl;change wpList _ _ _ _ _ _;go_wp2;exact j0 rfl rfl rfl
                  case o4 => intro W hW;rintro _ rfl;change wpList _ _ _ _ _ _;go_wp2;exact j0 rfl rfl rfl
                  case o5 =>
                    intro W hW;rintro _ rfl;change wpList _ _ _ _ _ _
                    have hb9:=HM8.out.pt.blk.below hW hS8
                    have hc0:=hb9.cell 0;have hc1:=hb9.cell 1;have hc2:=hb9.cell 2;have hc3:=hb9.cell 3
                    simp only [srC,List.getElem?_cons_zero,List.getElem?_cons_succ] at hc0 hc1 hc2 hc3
                    clear hb9
                    go_wp2;exact j0 rfl rfl rfl
                  case o6 =>
                    intro W hW;change wpList _ _ _ _ _ _
                    have hc0:=(HK11.out.below hW h11).cell 0;have hc1:=(HK11.out.below hW h11).cell 1
                    simp only [List.getElem?_cons_zero,List.getElem?_cons_succ] at hc0 hc1
                    go_wp2;exact j0 rfl rfl rfl
                  case o7 =>
                    intro W hW;rintro _ rfl;rintro _ rfl;rintro _ rfl;change wpList _ _ _ _ _ _
                    have hsW:=hW.size
                    go_wp2_with fail
                    refine (LU W.heap.size p HF.out q W (xR (HP8.out.below (hW.mono hBp8)) (by omega)) (HQ8.out.below hW (Nat.le_refl _)).ok HG.out (Nat.le_refl _) (k : Int) HKI.out false).mono ?_
                    rintro e w2 ⟨q2,rfl,hm2,hcf2,hb2⟩
                    have HB2:=kp hb2;have HM2b:=kp hm2;have HC2:=kp hcf2;clear hb2 hm2 hcf2
                    go_wp2
                    exact jG rfl rfl rfl HB2.out ⟨q2,rfl,HM2b.out.less hsW,HC2.out⟩
                  case o8 => intro W hW;change wpList _ _ _ _ _ _;go_wp2;exact j0 rfl rfl rfl
                  case o9 =>
                    intro W hW;change wpList _ _ _ _ _ _
                    have hc0:=(HK11.out.below hW h11).cell 0;have hc1:=(HK11.out.below hW h11).cell 1
                    simp only [List.getElem?_cons_zero,List.getElem?_cons_succ] at hc0 hc1
                    go_wp2;exact j0 rfl rfl rfl
                  case o10 => intro W hW;rintro _ rfl;rintro _ rfl;change wpList _ _ _ _ _ _;go_wp2;exact j0 rfl rfl rfl
                case hend =>
                  intro W hW;rintro _ rfl;rintro _ rfl;rintro _ rfl;rintro _ rfl;rintro _ rfl;rintro _ rfl;rintro _ rfl;rintro _ ⟨q2,rfl,hm2,hcf2⟩;rintro _ rfl;rintro _ rfl;rintro _ rfl
                  simp only [given,jJ,List.set,List.drop]
                  have HMw:=kp (HM8.out.below hW (Nat.le_refl _));have HK5w:=kp (HK58.out.below hW h58);have HK7w:=kp (HK78.out.below hW h78);have HSw:=kp (HS8.out.trans (SkS.below (gS:=gS) (r:=r2) hW (Nat.le_refl _)))
                  have hsW:=hW.size
                  have HM2:=kp hm2;have HC2:=kp hcf2
                  have HG2 : Kept (M.Good p q2.cf):=kp (by rw [hcf2];exact M.good_step HF.out HL.out HG.out _ _)
                  have HL2 : Kept (K.Low p q2.cf):=kp (by rw [hcf2];exact K.low_step HF.out HG.out HLo.out _ _)
                  clear hW hm2 hcf2
                  go_wp2_with (go_at_call 52;fail)
                  refine (sk_put B gS p HF.out HL.out most hmost r2 s1 i qs2 W HMw.out HI1.out q2 (HM2.out.less (by omega)) HG2.out HL2.out j k false (e.path ++ [((k : Int),false)]) (by omega)).mono ?_
                  rintro e9 w9 ⟨rfl,r9,qs9,hm9,hs9⟩
                  have HEn : Kept ((⟨q2.cf,j,k,false,e.path ++ [((k : Int),false)]⟩ : K.En) = K.next p j e k false):=kp (by rw [HC2.out,HCf.out];rfl)
                  rw [HEn.out] at hm9
                  have HM9:=kp hm9;have HS9:=kp (HSw.out.trans hs9)
                  have HI9 : Kept (K.Inv p most (K.put most s1 (K.next p j e k false))):=kp (HI1.out.put (by rw [← HEn.out];exact HG2.out) (.inr ⟨by have:=HJ1.out;have:=(List.getElem?_eq_some_iff.1 this).1;omega,(List.getElem?_eq_some_iff.1 HJ1.out).1,e,HJ1.out,HEk.out,rfl,rfl⟩))
                  have HJ9 : Kept ((K.put most s1 (K.next p j e k false)).all[j]? = some e):=kp ((K.put_pre most s1 _).get HJ1.out)
                  have HK79:=kp (hs9.box HK7w.out (fun e2 => HN76.out (by exact e2))).1
                  clear hm9 hs9
                  go_wp2
                  go_roundw
                  case rel => exact ⟨1,_,r9,qs9,by go_num,HM9.out,HS9.out,HI9.out,HJ9.out,.inr (.inl ⟨rfl,by rw [HE1.out]⟩)⟩
                  case measure => simp [intOf];try omega
              · have HE1:=kp hs1
                clear hs1
                by_cases hk8 : x.kind = 8
                · have hc7 : w6.cell? ⟨g7,0,none⟩ = some (.int .i64 8):=by rw [HK76.out.cell 0,← hk8];rfl
                  have HK8:=kp hk8
                  clear hk8
                  go_wp2_with (first
                    | ((with_reducible show Sl 39);go_must (refine qZ rfl 162 (.tmp 36) (.tmp 37) rfl 2 4 Try.underlying162 _ Try.underlying4 rfl zY [.bool false,.bool true] rfl 1 rfl (by decide) (.bool true) rfl ?_))
                    | ((with_reducible show Sl 11);go_must (refine j7 rfl 56 rfl [.int .i64 0,.bool false] JZ ?_);intro g11 w7 hg11 hk7 hw7;have HK11a:=kp hk7;have HW7:=kp hw7;have HG11:=kp hg11;have hs7:=hw7.size;clear hk7 hw7 hg11)
                    | ((with_reducible show Sn);go_must (refine j5 rfl 56 (.tmp 11) (.tmp 48) rfl g11 [.int .i64 (k : Int),.bool true] rfl rfl _ _ HK11a.out qW rfl (by simp [Value.oneCell']) ?_);intro w8 hk8 hg8 hz8;have HK11:=kp hk8;have HW8:=kp (HW7.out.grown hg8 hs7 (fun k e => by cases e;exact HG11.out));have hs8:=HW8.out.size;have h11:=hk8.lt;clear hk8 hg8 hz8))
                  have HM8:=kp (HM6.out.below HW8.out (Nat.le_refl _));have HK58:=kp (HK56.out.below HW8.out h56);have HQ8:=kp (HQ6.out.below HW8.out (Nat.le_refl _));have HP8:=kp (HP6.out.below (HW8.out.mono hBp6));have HK78:=kp (HK76.out.below HW8.out h76);have HS8:=kp (HS6.out.trans (SkS.below (gS:=gS) (r:=r2) HW8.out (Nat.le_refl _)))
                  have hS8 : gS < w8.heap.size:=by omega
                  have h58 : g5 < w8.heap.size:=by omega
                  have h78 : g7 < w8.heap.size:=by omega
                  have hBp8 : Bp ≤ w8.heap.size:=by omega
                  have hB8 : B ≤ w8.heap.size:=by omega
                  try simp only [xA]
                  go_wp2
                  apply jH 11 (.is _ :: .is _ :: .is _ :: .is _ :: .is _ :: .is _ :: .is _ :: Fact.stepped w8.heap.size (M.step p q.cf (k : Int) true) :: .is _ :: .is _ :: .is _ :: [])
                    [[],[],[],[(2,51)],[(3,52)],[(4,53)],[],[(1,50),(5,54),(6,55)],[],[],[(8,57),(9,58)],[(0,49),(7,56),(10,59)]]
                    [(0,49),(1,50),(2,51),(3,52),(4,53),(5,54),(6,55),(7,56),(8,57),(9,58),(10,59)] (by kernel_rfl) (by kernel_rfl) (by kernel_rfl) (by kernel_rfl) (by kernel_rfl)
                  case hob =>
                    refine ⟨?o0,?o1,?o2,?o3,?o4,?o5,?o6,?o7,?o8,?o9,?o10,trivial⟩
                    case o0 => intro W hW;change wpList _ _ _ _ _ _;go_wp2;exact j0 rfl rfl rfl
                    case o1 =>
                      intro W hW;change wpList _ _ _ _ _ _
                      go_must (refine j4 rfl 91 (.tmp 5) rfl g5 rfl _ (pcC q) _ (HK58.out.below hW h58) Try.underlying91 rfl (by rw [H17.out];exact jC) ?_)
                      go_wp2;exact j0 rfl rfl rfl
                    case o2 => intro W hW;change wpList _ _ _ _ _ _;go_wp2;exact j0 rfl rfl rfl
                    case o3 => intro W hW;rintro _ rfl;change wpList _ _ _ _ _ _;go_wp2;exact j0 rfl rfl rfl
                    case o4 => intro W hW;rintro _ rfl;change wpList _ _ _ _ _ _;go_wp2;exact j0 rfl rfl rfl
                    case o5 =>
                      intro W hW;rintro _ rfl;change wpList _ _ _ _ _ _
                      have hb9:=HM8.out.pt.blk.below hW hS8
                      have hc0:=hb9.cell 0;have hc1:=hb9.cell 1;have hc2:=hb9.cell 2;have hc3:=hb9.cell 3
                      simp only [srC,List.getElem?_cons_zero,List.getElem?_cons_succ] at hc0 hc1 hc2 hc3
                      clear hb9
                      go_wp2;exact j0 rfl rfl rfl
                    case o6 =>
                      intro W hW;change wpList _ _ _ _ _ _
                      have hc0:=(HK11.out.below hW h11).cell 0;have hc1:=(HK11.out.below hW h11).cell 1
                      simp only [List.getElem?_cons_zero,List.getElem?_cons_succ] at hc0 hc1
                      go_wp2;exact j0 rfl rfl rfl
                    case o7 =>
                      intro W hW;rintro _ rfl;rintro _ rfl;rintro _ rfl;change wpList _ _ _ _ _ _
                      have hsW:=hW.size
                      go_wp2_with fail
                      refine (LU W.heap.size p HF.out q W (xR (HP8.out.below (hW.mono hBp8)) (by omega)) (HQ8.out.below hW (Nat.le_refl _)).ok HG.out (Nat.le_refl _) (k : Int) HKI.out true).mono ?_
                      rintro e w2 ⟨q2,rfl,hm2,hcf2,hb2⟩
                      have HB2:=kp hb2;have HM2b:=kp hm2;have HC2:=kp hcf2;clear hb2 hm2 hcf2
                      go_wp2
                      exact jG rfl rfl rfl HB2.out ⟨q2,rfl,HM2b.out.less hsW,HC2.out⟩
                    case o8 => intro W hW;change wpList _ _ _ _ _ _;go_wp2;exact j0 rfl rfl rfl
                    case o9 =>
                      intro W hW;change wpList _ _ _ _ _ _
                      have hc0:=(HK11.out.below hW h11).cell 0;have hc1:=(HK11.out.below hW h11).cell 1
                      simp only [List.getElem?_cons_zero,List.getElem?_cons_succ] at hc0 hc1
                      go_wp2;exact j0 rfl rfl rfl
                    case o10 => intro W hW;rintro _ rfl;rintro _ rfl;change wpList _ _ _ _ _ _;go_wp2;exact j0 rfl rfl rfl
                  case hend =>
                    intro W hW;rintro _ rfl;rintro _ rfl;rintro _ rfl;rintro _ rfl;rintro _ rfl;rintro _ rfl;rintro _ rfl;rintro _ ⟨q2,rfl,hm2,hcf2⟩;rintro _ rfl;rintro _ rfl;rintro _ rfl
                    simp only [given,jJ,List.set,List.drop]
                    have HMw:=kp (HM8.out.below hW (Nat.le_refl _));have HK5w:=kp (HK58.out.below hW h58);have HK7w:=kp (HK78.out.below hW h78);have HSw:=kp (HS8.out.trans (SkS.below (gS:=gS) (r:=r2) hW (Nat.le_refl _)))
                    have hsW:=hW.size
                    have HM2:=kp hm2;have HC2:=kp hcf2
                    have HG2 : Kept (M.Good p q2.cf):=kp (by rw [hcf2];exact M.good_step HF.out HL.out HG.out _ _)
                    have HL2 : Kept (K.Low p q2.cf):=kp (by rw [hcf2];exact K.low_step HF.out HG.out HLo.out _ _)
                    clear hW hm2 hcf2
                    go_wp2_with (go_at_call 52;fail)
                    refine (sk_put B gS p HF.out HL.out most hmost r2 s1 i qs2 W HMw.out HI1.out q2 (HM2.out.less (by omega)) HG2.out HL2.out j k true (e.path ++ [((k : Int),true)]) (by omega)).mono ?_
                    rintro e9 w9 ⟨rfl,r9,qs9,hm9,hs9⟩
                    have HEn : Kept ((⟨q2.cf,j,k,true,e.path ++ [((k : Int),true)]⟩ : K.En) = K.next p j e k true):=kp (by rw [HC2.out,HCf.out];rfl)
                    rw [HEn.out] at hm9
                    have HM9:=kp hm9;have HS9:=kp (HSw.out.trans hs9)
                    have HI9 : Kept (K.Inv p most (K.put most s1 (K.next p j e k true))):=kp (HI1.out.put (by rw [← HEn.out];exact HG2.out) (.inr ⟨by have:=HJ1.out;have:=(List.getElem?_eq_some_iff.1 this).1;omega,(List.getElem?_eq_some_iff.1 HJ1.out).1,e,HJ1.out,HEk.out,rfl,rfl⟩))
                    have HJ9 : Kept ((K.put most s1 (K.next p j e k true)).all[j]? = some e):=kp ((K.put_pre most s1 _).get HJ1.out)
                    have HK79:=kp (hs9.box HK7w.out (fun e2 => HN76.out (by exact e2))).1
                    clear hm9 hs9
                    go_wp2
                    go_roundw
                    case rel => exact ⟨2,_,r9,qs9,by go_num,HM9.out,HS9.out,HI9.out,HJ9.out,.inr (.inr ⟨rfl,HK8.out,by rw [HE1.out]⟩)⟩
                    case measure => simp [intOf];try omega
                · have hc7 : w6.cell? ⟨g7,0,none⟩ = some (.int .i64 x.kind):=HK76.out.cell 0
                  have hb8 : (x.kind != 8) = true:=by rw [bne_iff_ne];exact hk8
                  have HT : Kept (K.thrs p most j e s (k + 1) = s1):=kp ((HOneN.out hk8).trans HE1.out.symm)
                  clear hk8
                  go_wp2_with ((with_reducible show Sl 39);go_must (refine qZ rfl 162 (.tmp 36) (.tmp 37) rfl 2 4 Try.underlying162 _ Try.underlying4 rfl zY [.bool false,.bool true] rfl 1 rfl (by decide) (.bool true) rfl ?_))
                  go_roundw
                  case rel => exact ⟨k + 1,r2,qs2,by omega,by go_num,by rw [HT.out];exact HM6.out,HSb.out.trans HS6.out⟩
                  case measure => simp [intOf];omega
              · have HT : Kept (K.thrs p most j e s (k + 1) = s1):=kp ((HOne8.out hk8).trans hs1.symm)
                clear hs1 hk8
                go_wp2
                go_roundw
                case rel => exact ⟨k + 1,r2,qs2,by omega,by go_num,by rw [HT.out];exact HM6.out,HSb.out.trans HS6.out⟩
                case measure => simp [intOf];omega
    · have hkn : k = q.len:=by omega
      have HT : Kept (K.goOn p most j e s = K.thrs p most j e s k):=kp (by unfold K.goOn;rw [HNl.out,hkn])
      have hge : q.len ≤ k:=by omega
      clear hlt hkn
      go_wp2
      simp only [Exit.noGoto]
      go_end0
      exact ⟨rfl,r1,qs1,by rw [HT.out];exact HM1.out,(SkS.below (gS:=gS) (r:=r) HW2.out (Nat.le_refl _)).trans HS1.out⟩
end Go.Proofs.Ytcbfghcdbmlneaa
