/- The document's own checking of programs, walked: Check. -/
import Derived.Test.YtoekiejipdabmaaDoorProgRef2
import Derived.Test.YtoekiejipdabmaaDoorProgRef4
import Derived.Test.YtoekiejipdabmaaDoorPk3
namespace Go.Proofs.YtoekiejipdabmaaDoor
open Go.RowKit
theorem lB {p : Pg} {a b a' b' : Int} {c c' : Nat} (h : Q.check p = (a,b,c)) (h' : Q.check p = (a',b',c')) : Ending.returned (.tuple #[.int .i64 a',.int .i64 b',.int .i64 (c' : Int)]) = Ending.returned (.tuple #[.int .i64 a,.int .i64 b,.int .i64 (c : Int)]):=by
  rw [h] at h'
  injection h' with h1 h2
  injection h2 with h2 h3
  rw [h1,h2,h3]
theorem jU : (Tryd.prog.info? 66).map (·.zero) = some (some (.agg (ndC ⟨0,0,0,0⟩).toArray)):=by kernel_rfl
theorem jD : (Tryd.prog.info? 66).map (·.size) = some 4:=by kernel_rfl
theorem jK (x : Nd) : ∀ u ∈ ndC x,u.oneCell' = true:=by
  intro u hu
  simp only [ndC,List.mem_cons,List.not_mem_nil,or_false] at hu
  rcases hu with h | h | h | h <;> subst h <;> rfl
theorem uK {g l s f : Int} {x : Nd} {nodes : Int} (h : Q.may g l s f x nodes = true) (h7 : x.kind = 7) : 0 ≤ x.arg ∧ x.arg < f:=by
  unfold Q.may at h
  rw [Bool.and_eq_true] at h
  have h0:=List.all_eq_true.1 h.2 0 (by simp)
  have h1 : Q.row x.kind = [102,110,45]:=by rw [h7];rfl
  rw [h1] at h0
  simpa [Q.fields,Q.size] using h0
theorem vB {p : Pg} (h : ∀ j,j < p.fns.length → ¬ Q.badFn p j) : Q.CallsFit p:=by
  intro fn hfn nd hnd h7
  obtain ⟨j,hj,e⟩:=List.getElem_of_mem hfn
  have hx : p.fns[j]? = some fn:=by rw [List.getElem?_eq_getElem hj,e]
  obtain ⟨_,_,h3⟩:=Q.fine_fn hx (h j hj)
  obtain ⟨i,hi,e2⟩:=List.getElem_of_mem hnd
  have hy : fn.nodes[i]? = some nd:=by rw [List.getElem?_eq_getElem hi,e2]
  exact uK (h3 i nd hy) h7
set_option maxRecDepth 1000000 in
set_option maxHeartbeats 8000000 in
theorem J3 (B : Nat) (p : Pg) (w : World) (hp : p.Ok w B) (hB : B ≤ w.heap.size) (a b : Int) (c : Nat) (hc : Q.check p = (a,b,c)) :
    Calls Tryd.prog 12 #[pgA p] w fun e w' => e = .returned (.tuple #[.int .i64 a,.int .i64 b,.int .i64 (c : Int)]) ∧ Below w.heap.size w w':=by
  have HP:=kp hp;have HC:=kp hc
  have hlen:=hp.row.len
  have HLen:=kp hlen
  have hlc:=hp.lc;have hcm:=hp.cm
  obtain ⟨hg1,hg2⟩:=hp.g;obtain ⟨hl1,hl2⟩:=hp.l;obtain ⟨hs1,hs2⟩:=hp.s
  unfold maxLen at hcm
  have hcm9 : p.cap ≤ 9223372036854775807:=by omega
  clear hp hcm hc
  rw [jM]
  by_cases hneg : p.g < 0 ∨ p.l < 0 ∨ p.s < 0 ∨ p.len = 0
  · have HE:=kp (lB (a':=-1) (b':=-1) (c':=1) HC.out (by unfold Q.check;rw [if_pos (by rw [hlen];exact hneg)]))
    have hcases : p.g < 0 ∨ (0 ≤ p.g ∧ p.l < 0) ∨ (0 ≤ p.g ∧ 0 ≤ p.l ∧ p.s < 0) ∨ (0 ≤ p.g ∧ 0 ≤ p.l ∧ 0 ≤ p.s ∧ p.len = 0):=by omega
    clear hneg hlen
    rcases hcases with h1 | ⟨h1,h2⟩ | ⟨h1,h2,h3⟩ | ⟨h1,h2,h3,h4⟩
    all_goals go_enter Tryd.func12,Tryd.ntmps12
    all_goals go_wp2_with ((with_reducible refine j4 rfl 24 (.tmp 0) rfl (pgC p) rfl ?_);intro g1 w1 hg1 hk1 hw1;have HK1:=kp hk1;obtain ⟨hc0,hc1,hc2,hc3⟩:=j8 hk1;have HW1:=kp hw1;have hs1':=hw1.size;clear hg1 hk1 hw1)
    all_goals go_ret3
    all_goals exact ⟨HE.out,HW1.out⟩
  · have hlen2:=hlen
    by_cases hbig : 16 < p.g ∨ 16 < p.l ∨ 8 < p.s ∨ 16 < p.len
    · have HE:=kp (lB (a':=-1) (b':=-1) (c':=4) HC.out (by unfold Q.check;rw [if_neg (by rw [hlen];exact hneg),if_pos (by rw [hlen];exact hbig)]))
      have n1 : 0 ≤ p.g:=by omega
      have n2 : 0 ≤ p.l:=by omega
      have n3 : 0 ≤ p.s:=by omega
      have n4 : 0 < p.len:=by omega
      have n5 : ((p.len : Int) == 0) = false:=by simp;omega
      have hcases : 16 < p.g ∨ (p.g ≤ 16 ∧ 16 < p.l) ∨ (p.g ≤ 16 ∧ p.l ≤ 16 ∧ 8 < p.s) ∨ (p.g ≤ 16 ∧ p.l ≤ 16 ∧ p.s ≤ 8 ∧ 16 < p.len):=by omega
      clear hneg hbig hlen hlen2
      rcases hcases with h1 | ⟨h1,h2⟩ | ⟨h1,h2,h3⟩ | ⟨h1,h2,h3,h4⟩
      all_goals go_enter Tryd.func12,Tryd.ntmps12
      all_goals go_wp2_with ((with_reducible refine j4 rfl 24 (.tmp 0) rfl (pgC p) rfl ?_);intro g1 w1 hg1 hk1 hw1;have HK1:=kp hk1;obtain ⟨hc0,hc1,hc2,hc3⟩:=j8 hk1;have HW1:=kp hw1;have hs1':=hw1.size;clear hg1 hk1 hw1)
      all_goals go_ret3
      all_goals exact ⟨HE.out,HW1.out⟩
    · have HCo : Kept (Q.Counts p):=kp ⟨by omega,by omega,by omega,by rw [hlen];omega⟩
      have n1 : 0 ≤ p.g:=by omega
      have n2 : 0 ≤ p.l:=by omega
      have n3 : 0 ≤ p.s:=by omega
      have n4 : 0 < p.len:=by omega
      have n5 : ((p.len : Int) == 0) = false:=by simp;omega
      have m1 : p.g ≤ 16:=by omega
      have m2 : p.l ≤ 16:=by omega
      have m3 : p.s ≤ 8:=by omega
      have m4 : p.len ≤ 16:=by omega
      clear hneg hbig hlen hlen2
      go_enter Tryd.func12,Tryd.ntmps12
      go_wp2_with ((with_reducible refine j4 rfl 24 (.tmp 0) rfl (pgC p) rfl ?_);intro g1 w1 hg1 hk1 hw1;have HK1:=kp hk1;obtain ⟨hc0,hc1,hc2,hc3⟩:=j8 hk1;have HW1:=kp hw1;have hs1':=hw1.size;clear hg1 hk1 hw1)
      have HP1:=kp (HP.out.below (HW1.out.mono hB))
      have hB1 : B ≤ w1.heap.size:=by omega
      clear hc0 hc1 hc2 hc3
      go_loopw [6] (fun v6 wr => ∃ f : Nat,f ≤ p.len ∧ v6 = .int .i64 f ∧ (∀ j,j < f → ¬ Q.badFn p j) ∧ Below w1.heap.size w1 wr) (fun v6 _ => p.len - (intOf v6).toNat)
      case atStart => exact ⟨0,by omega,rfl,fun j hj => by omega,Below.refl _ _⟩
      case round =>
        obtain ⟨f,hf,rfl,hpre,hbl⟩:=hrel
        have HPre:=kp hpre;have HBL:=kp hbl
        have HKr:=kp (HK1.out.below hbl HK1.out.lt)
        obtain ⟨hc0,hc1,hc2,hc3⟩:=j8 HKr.out
        have HPr:=kp (HP1.out.below (hbl.mono hB1))
        have hszr:=hbl.size
        clear hpre hbl
        by_cases hlt : f < p.len
        · obtain ⟨ad,fn,e1,hab,hx,hok,hcf⟩:=HPr.out.fn hlt
          rw [e1] at hc3 ⊢
          have HE1:=kp e1
          clear e1
          have hfc:=hok.lc;have hfm:=hok.cm
          unfold maxLen at hfm
          have hfm9 : fn.cap ≤ 9223372036854775807:=by omega
          have HX:=kp hx
          have hfl:=hok.nodes.1.len
          have HFl:=kp hfl
          clear hx hfm
          by_cases hz0 : fn.len = 0
          · have HE:=kp (lB HC.out (Q.check_fn HCo.out HX.out (by rw [Q.fault_empty p fn (by rw [hfl];exact hz0)];decide) HPre.out))
            rw [Q.fault_empty p fn (by rw [hfl];exact hz0)] at HE
            clear hok hfl
            go_wp2
            go_ret3
            exact ⟨HE.out,HW1.out.trans (HBL.out.mono hs1')⟩
          · have hzb : ((fn.len : Int) == 0) = false:=by simp;omega
            by_cases h64 : 64 < fn.len
            · have HE:=kp (lB HC.out (Q.check_fn HCo.out HX.out (by rw [Q.fault_long p fn (by rw [hfl];exact h64)];decide) HPre.out))
              rw [Q.fault_long p fn (by rw [hfl];exact h64)] at HE
              clear hok hfl
              go_wp2
              go_ret3
              exact ⟨HE.out,HW1.out.trans (HBL.out.mono hs1')⟩
            · have h64' : fn.len ≤ 64:=by omega
              have HFl64 : Kept (I64 (fn.len : Int)):=kp ⟨by omega,by omega⟩
              clear h64 hok hfl
              go_wp2
              go_loopw [7] (fun v7 wq => ∃ i : Nat,i ≤ fn.len ∧ v7 = .int .i64 i ∧ (∀ j,j < i → ¬ Q.badNode p fn j) ∧ Below w1.heap.size w1 wq) (fun v7 _ => fn.len - (intOf v7).toNat)
              case atStart => exact ⟨0,by omega,rfl,fun j hj => by omega,HBL.out⟩
              case round =>
                clear HBL HKr hc0 hc1 hc2 hc3 hcf HPr hszr
                obtain ⟨i,hi,rfl,hpre,hbl⟩:=hrel
                have HPreI:=kp hpre;have HBL:=kp hbl
                have HKr:=kp (HK1.out.below hbl HK1.out.lt)
                obtain ⟨hc0,hc1,hc2,hc3⟩:=j8 HKr.out
                rw [HE1.out] at hc3
                have HPr:=kp (HP1.out.below (hbl.mono hB1))
                have hszr:=hbl.size
                clear hpre hbl
                obtain ⟨ad',fn',e1',_,hx',hok,hcf⟩:=HPr.out.fn hlt
                rw [HE1.out] at e1'
                cases e1'
                rw [HX.out] at hx'
                cases hx'
                by_cases hli : i < fn.len
                · obtain ⟨bd,x,e3,hbb,hy,hxok,hn0,hn1,hn2,hn3⟩:=hok.nodes.get hli
                  rw [e3] at hcf
                  have HXOk:=kp hxok
                  obtain ⟨m,hm⟩ : ∃ m,Q.may p.g p.l p.s p.len x fn.len = m:=⟨_,rfl⟩
                  have HM:=kp hm
                  have HBad : Kept (m = false ↔ Q.badNode p fn i):=kp <| by
                    rw [← hm]
                    unfold Q.badNode
                    rw [HFl.out]
                    constructor
                    · intro h;exact ⟨x,hy,h⟩
                    · rintro ⟨nd,h1,h2⟩
                      rw [hy] at h1
                      cases h1
                      exact h2
                  have HFc0:=kp (And.intro hc3 (And.intro hcf (And.intro hn0 (And.intro hn1 (And.intro hn2 hn3)))))
                  have hab' : ad.block < wr.heap.size:=by omega
                  have hbb' : bd.block < wr.heap.size:=by omega
                  have HFc : Kept (∀ W : World,Below wr.heap.size wr W → (W.cell? ⟨g1,3,none⟩ = some (.slice (some ad) p.len p.cap) ∧ W.cell? (ad.add f) = some (.slice (some bd) fn.len fn.cap) ∧ W.cell? (bd.add (i * 4)) = some (.int .i64 x.kind) ∧ W.cell? ⟨(bd.add (i * 4)).block,(bd.add (i * 4)).off + 1,none⟩ = some (.int .i64 x.arg) ∧
                      W.cell? ⟨(bd.add (i * 4)).block,(bd.add (i * 4)).off + 2,none⟩ = some (.int .i64 x.next) ∧ W.cell? ⟨(bd.add (i * 4)).block,(bd.add (i * 4)).off + 3,none⟩ = some (.int .i64 x.alt))):=kp fun W hW =>
                    ⟨(hW.cell HKr.out.lt).trans hc3,(hW.cell (by rw [add_block];exact hab')).trans hcf,(hW.cell (by rw [add_block];exact hbb')).trans hn0,(hW.cell (by show (bd.add (i * 4)).block < _;rw [add_block];exact hbb')).trans hn1,
                      (hW.cell (by show (bd.add (i * 4)).block < _;rw [add_block];exact hbb')).trans hn2,(hW.cell (by show (bd.add (i * 4)).block < _;rw [add_block];exact hbb')).trans hn3⟩
                  clear HFc0 hxok hm hn0 hn1 hn2 hn3 hok hy
                  go_wp2
                  apply jR (.is _ :: .is _ :: .is _ :: .is _ :: .is _ :: .is _ :: .is _ :: .is _ :: .is _ :: .is _ :: .is _ :: .is _ :: .is _ :: .is _ :: .is _ :: .is _ :: .is _ :: [])
                    [[],[],[(1,81)],[],[(2,82),(3,83)],[(4,84)],[],[(5,85),(6,86)],[(7,87)],[],[(9,89)],[],[(10,90),(11,91)],[(12,92)],[(13,93)],[(0,80),(8,88),(14,94)],[(15,95)]]
                    [(0,80),(1,81),(2,82),(3,83),(4,84),(5,85),(6,86),(7,87),(8,88),(9,89),(10,90),(11,91),(12,92),(13,93),(14,94),(15,95),(16,96)] (by kernel_rfl) (by kernel_rfl)
                  case hob =>
                    refine ⟨?o0,?o1,?o2,?o3,?o4,?o5,?o6,?o7,?o8,?o9,?o10,?o11,?o12,?o13,?o14,?o15,?o16,trivial⟩
                    case o0 =>
                      intro W hW;change wpList _ _ _ _ _ _
                      refine j6 rfl 24 (.tmp 1) rfl g1 rfl _ (pgC p) _ (HKr.out.below hW HKr.out.lt) Tryd.underlying24 rfl jL ?_
                      go_wp2;exact j3 rfl rfl rfl
                    case o1 => intro W hW;change wpList _ _ _ _ _ _;go_wp2;exact j3 rfl rfl rfl
                    case o2 =>
                      intro W hW;rintro _ rfl;change wpList _ _ _ _ _ _
                      obtain ⟨hq3,hqf,hq0,hq1,hq2,hq4⟩:=HFc.out W hW
                      go_wp2;exact j3 rfl rfl rfl
                    case o3 => intro W hW;change wpList _ _ _ _ _ _;go_wp2;exact j3 rfl rfl rfl
                    case o4 => intro W hW;rintro _ rfl;rintro _ rfl;change wpList _ _ _ _ _ _;go_wp2;exact j3 rfl rfl rfl
                    case o5 =>
                      intro W hW;rintro _ rfl;change wpList _ _ _ _ _ _
                      obtain ⟨hq3,hqf,hq0,hq1,hq2,hq4⟩:=HFc.out W hW
                      go_wp2;exact j3 rfl rfl rfl
                    case o6 => intro W hW;change wpList _ _ _ _ _ _;go_wp2;exact j3 rfl rfl rfl
                    case o7 => intro W hW;rintro _ rfl;rintro _ rfl;change wpList _ _ _ _ _ _;go_wp2;exact j3 rfl rfl rfl
                    case o8 =>
                      intro W hW;rintro _ rfl;change wpList _ _ _ _ _ _
                      obtain ⟨hq3,hqf,hq0,hq1,hq2,hq4⟩:=HFc.out W hW
                      go_wp2;exact j3 rfl rfl rfl
                    case o9 => intro W hW;change wpList _ _ _ _ _ _;go_wp2;exact j3 rfl rfl rfl
                    case o10 =>
                      intro W hW;rintro _ rfl;change wpList _ _ _ _ _ _
                      obtain ⟨hq3,hqf,hq0,hq1,hq2,hq4⟩:=HFc.out W hW
                      go_wp2;exact j3 rfl rfl rfl
                    case o11 => intro W hW;change wpList _ _ _ _ _ _;go_wp2;exact j3 rfl rfl rfl
                    case o12 => intro W hW;rintro _ rfl;rintro _ rfl;change wpList _ _ _ _ _ _;go_wp2;exact j3 rfl rfl rfl
                    case o13 =>
                      intro W hW;rintro _ rfl;change wpList _ _ _ _ _ _
                      obtain ⟨hq3,hqf,hq0,hq1,hq2,hq4⟩:=HFc.out W hW
                      go_wp2;exact j3 rfl rfl rfl
                    case o14 => intro W hW;rintro _ rfl;change wpList _ _ _ _ _ _;go_wp2;exact j3 rfl rfl rfl
                    case o15 =>
                      intro W hW;rintro _ rfl;rintro _ rfl;rintro _ rfl;change wpList _ _ _ _ _ _
                      go_wp2_with (go_at_call 22;go_must (refine (ref_may p x HXOk.out fn.len HFl64.out m HM.out _).mono ?_);rintro e2 w9 ⟨rfl,hw9⟩)
                      exact jE rfl rfl rfl hw9 rfl
                    case o16 => intro W hW;rintro _ rfl;change wpList _ _ _ _ _ _;go_wp2;exact j3 rfl rfl rfl
                  case hend =>
                    intro W hW;rintro _ rfl;rintro _ rfl;rintro _ rfl;rintro _ rfl;rintro _ rfl;rintro _ rfl;rintro _ rfl;rintro _ rfl;rintro _ rfl;rintro _ rfl;rintro _ rfl;rintro _ rfl;rintro _ rfl;rintro _ rfl;rintro _ rfl;rintro _ rfl;rintro _ rfl
                    simp only [given,jI,List.set]
                    have HBW:=kp (HBL.out.trans (hW.mono hszr))
                    cases m
                    · have hfa:=Q.fault_node p fn i (by rw [HFl.out];omega) (by rw [HFl.out];exact h64') (HBad.out.1 rfl) (by rw [HFl.out];exact hli) HPreI.out
                      have HE:=kp (lB HC.out (Q.check_fn HCo.out HX.out (by rw [hfa];show (3 : Nat) ≠ 0;decide) HPre.out))
                      rw [hfa] at HE
                      clear hfa hc0 hc1 hc2 hc3 hcf
                      go_wp2
                      go_ret3
                      exact ⟨HE.out,HW1.out.trans (HBW.out.mono hs1')⟩
                    · have HNot : Kept (¬ Q.badNode p fn i):=kp fun h => by have:=HBad.out.2 h;cases this
                      have HNx : Kept (∀ j,j < i + 1 → ¬ Q.badNode p fn j):=kp fun j hj h => by
                        by_cases e : j = i
                        · subst e;exact HNot.out h
                        · exact HPreI.out j (by omega) h
                      clear hc0 hc1 hc2 hc3 hcf
                      go_wp2
                      go_roundw
                      case rel => exact ⟨i + 1,by omega,by go_num,HNx.out,HBW.out⟩
                      case measure => simp [intOf];omega
                · have HGood : Kept (¬ Q.badFn p f):=kp fun h => by
                    obtain ⟨fn2,h1,h2⟩:=h
                    rw [HX.out] at h1
                    cases h1
                    exact h2 (by rw [Q.fault_none p fn (by rw [HFl.out];exact hz0) (by rw [HFl.out];exact h64') fun j hj => HPreI.out j (by rw [HFl.out] at hj;omega)])
                  have HNx : Kept (∀ j,j < f + 1 → ¬ Q.badFn p j):=kp fun j hj h => by
                    by_cases e : j = f
                    · subst e;exact HGood.out h
                    · exact HPre.out j (by omega) h
                  have hge : fn.len ≤ i:=by omega
                  clear hli hok
                  go_wp2
                  go_roundw
                  case rel => exact ⟨f + 1,by omega,by go_num,HNx.out,HBL.out⟩
                  case measure => simp [intOf];omega
        · have hfe : f = p.len:=by omega
          have HFine : Kept (∀ j,j < p.fns.length → ¬ Q.badFn p j):=kp fun j hj => HPre.out j (by rw [HLen.out] at hj;omega)
          have HFit : Kept (Q.CallsFit p):=kp (vB HFine.out)
          have hge : p.len ≤ f:=by omega
          have hszw : w.heap.size ≤ wr.heap.size:=by have:=HW1.out.size;omega
          clear hlt hfe hc0 hc1 hc2 hc3
          go_wp2_with (first
            | ((with_reducible show Sl 99);go_must (refine j6 rfl 24 (.tmp 1) rfl g1 rfl _ (pgC p) _ HKr.out Tryd.underlying24 rfl jL ?_))
            | (go_at_call 23;go_must (refine (Y8 B p wr HPr.out (by omega) HFit.out (by omega)).mono ?_);rintro e3 w3 ⟨v,gs,M,rfl,hmat,hsq,hreach,hw3⟩;have HMat:=kp hmat;have HSq:=kp hsq;have HReach:=kp hreach;have HW3:=kp hw3;clear hmat hsq hreach hw3))
          have HPre2:=HFine
          have HMat3:=HMat
          have HBw3 : Kept (Below w1.heap.size w1 w3):=kp (HBL.out.trans (HW3.out.mono hszr))
          have hsz3:=HBw3.out.size
          clear HPre HBL HKr HPr hszr HFit hge hszw
          go_loopw [9] (fun v9 wq => ∃ f : Nat,f ≤ p.len ∧ v9 = .int .i64 f ∧ (∀ j,j < f → ¬ Q.badRound p j) ∧ Below w3.heap.size w3 wq) (fun v9 _ => p.len - (intOf v9).toNat)
          case atStart => exact ⟨0,by omega,rfl,fun j hj => by omega,Below.refl _ _⟩
          case round =>
            obtain ⟨f,hf,rfl,hpre,hbl⟩:=hrel
            have HPre:=kp hpre;have HBL:=kp hbl
            clear hpre hbl
            by_cases hlt : f < p.len
            · obtain ⟨ad,fn,e1,hab0,hx,hok0,_⟩:=HP1.out.fn hlt
              rw [e1]
              have HE1:=kp e1
              clear e1
              have HX:=kp hx
              obtain ⟨hf0,hf64,hmays⟩:=Q.fine_fn hx (HFine.out f (by rw [HLen.out];exact hlt))
              have hfl:=hok0.nodes.1.len
              have hfc:=hok0.lc;have hfm:=hok0.cm
              unfold maxLen at hfm
              have hfm9 : fn.cap ≤ 9223372036854775807:=by omega
              rw [hfl] at hf64
              have HMays:=kp hmays
              have HFl:=kp hfl
              clear hx hok0 hfm hf0 hmays hfl
              go_wp2
              go_loopw [10] (fun v10 wq => ∃ i : Nat,i ≤ fn.len ∧ v10 = .int .i64 i ∧ (∀ j,j < i → ¬ Q.roundAt p f j) ∧ Below w3.heap.size w3 wq) (fun v10 _ => fn.len - (intOf v10).toNat)
              case atStart => exact ⟨0,by omega,rfl,fun j hj => by omega,HBL.out⟩
              case round =>
                clear HBL
                obtain ⟨i,hi,rfl,hpre,hbl⟩:=hrel
                have HPreI:=kp hpre;have HBL:=kp hbl
                have HB1q:=kp (HBw3.out.trans (hbl.mono hsz3))
                obtain ⟨hc0,hc1,hc2,hc3⟩:=j8 (HK1.out.below HB1q.out HK1.out.lt)
                rw [HE1.out] at hc3
                obtain ⟨ad',fn',e1',hab,hx',hok,hcf⟩:=(HP1.out.below (HB1q.out.mono hB1)).fn hlt
                rw [HE1.out] at e1'
                cases e1'
                rw [HX.out] at hx'
                cases hx'
                clear hpre hbl hc0 hc1 hc2
                by_cases hli : i < fn.len
                · obtain ⟨bd,x,e3,hbb,hy,hxok,hn0,hn1,hn2,hn3⟩:=hok.nodes.get hli
                  rw [e3] at hcf
                  have HY:=kp hy
                  clear hok hy hxok
                  by_cases h7 : x.kind = 7
                  · have hz7 : (x.kind == 7) = true:=by simpa using h7
                    obtain ⟨ha0,han⟩:=uK (HMays.out i x HY.out) h7
                    obtain ⟨k,hk⟩ : ∃ k : Nat,x.arg = (k : Int):=⟨x.arg.toNat,by omega⟩
                    have hkn : k < p.len:=by omega
                    obtain ⟨mz,hmz0⟩ : ∃ mz,Q.mget M k f = mz:=⟨_,rfl⟩
                    have HMz:=kp hmz0
                    have HRd : Kept (Q.roundAt p f i ↔ (k = f ∨ mz = 1)):=kp <| by
                      unfold Q.roundAt
                      constructor
                      · rintro ⟨fn2,nd,g1',g2',_,k2,g4,g5,g6⟩
                        rw [HX.out] at g1'
                        cases g1'
                        rw [HY.out] at g2'
                        cases g2'
                        have : k2 = k:=by omega
                        subst this
                        rcases g6 with g6 | g6
                        · exact .inl g6
                        · rw [HLen.out] at g6
                          exact .inr (by rw [← HMz.out];exact (HReach.out _ _ hkn hlt).2 g6)
                      · intro h
                        refine ⟨fn,x,HX.out,HY.out,h7,k,hk,by rw [HLen.out];exact hkn,?_⟩
                        rcases h with h | h
                        · exact .inl h
                        · right
                          rw [HLen.out]
                          exact (HReach.out _ _ hkn hlt).1 (by rw [HMz.out];exact h)
                    have HKx:=kp hk
                    clear h7 hmz0 ha0 han hk
                    by_cases hkf0 : k = f
                    · have hkf : ((k : Int) == (f : Int)) = true:=by simp;omega
                      have HE:=kp (lB HC.out (Q.check_round HCo.out HFine.out (HRd.out.2 (.inl hkf0)) (by omega) (by rw [HLen.out];exact hlt) HPre.out HPreI.out))
                      clear hkf0
                      go_wp2_with (first
                | ((with_reducible show Sl 11);go_must (refine j7 rfl 66 rfl (ndC ⟨0,0,0,0⟩) jU ?_);intro g5 w6 hg5 hk6 hw6;have HG5:=kp hg5;have HK6:=kp hk6;have HW6:=kp hw6;clear hg5 hk6 hw6)
                | ((with_reducible show Sn);go_must (refine j5 rfl 66 (.tmp 11) (.tmp 123) rfl g5 (ndC x) rfl rfl _ _ HK6.out jD rfl (jK x) ?_);intro w7 hk7 hg7 hs7
                   obtain ⟨hx0,hx1,hx2,hx3⟩:=jB hk7
                   have HBq7:=kp (HW6.out.grown hg7 HW6.out.size (fun k hk => by cases hk;exact HG5.out))
                   have HB37:=kp (HBL.out.trans (HBq7.out.mono HBL.out.size))
                   clear hk7 hg7 hs7 hn0 hn1 hn2 hn3
                   rw [HKx.out] at hx1))
                      go_ret3
                      exact ⟨HE.out,HW1.out.trans ((HBw3.out.trans (HB37.out.mono hsz3)).mono hs1')⟩
                    · have hkf : ((k : Int) == (f : Int)) = false:=by simp;omega
                      by_cases hm1 : mz = 1
                      · have HE:=kp (lB HC.out (Q.check_round HCo.out HFine.out (HRd.out.2 (.inr hm1)) (by omega) (by rw [HLen.out];exact hlt) HPre.out HPreI.out))
                        have hmb : ((mz : Int) == 1) = true:=by simp;omega
                        clear hkf0 hm1
                        go_wp2_with (first
                | ((with_reducible show Sl 11);go_must (refine j7 rfl 66 rfl (ndC ⟨0,0,0,0⟩) jU ?_);intro g5 w6 hg5 hk6 hw6;have HG5:=kp hg5;have HK6:=kp hk6;have HW6:=kp hw6;clear hg5 hk6 hw6)
                | ((with_reducible show Sn);go_must (refine j5 rfl 66 (.tmp 11) (.tmp 123) rfl g5 (ndC x) rfl rfl _ _ HK6.out jD rfl (jK x) ?_);intro w7 hk7 hg7 hs7
                   obtain ⟨hx0,hx1,hx2,hx3⟩:=jB hk7
                   have HBq7:=kp (HW6.out.grown hg7 HW6.out.size (fun k hk => by cases hk;exact HG5.out))
                   have HB37:=kp (HBL.out.trans (HBq7.out.mono HBL.out.size))
                   clear hk7 hg7 hs7 hn0 hn1 hn2 hn3
                   rw [HKx.out] at hx1
                   obtain ⟨adm,gk,capm,rk,hvm,_,hgk,hrk,hrl,hck,hkk,_,_,hcp1,hcp2⟩:=(HMat.out.below HB37.out).get (a:=k) (by rw [HSq.out.1];exact hkn)
                   rw [HSq.out.1] at hvm hcp1
                   obtain ⟨z,hz⟩ : ∃ z,rk[f]? = some z:=⟨_,List.getElem?_eq_getElem (by omega)⟩
                   have hcz:=hkk.cell f
                   rw [List.getElem?_map,hz,Option.map_some,lG] at hcz
                   have hmz : z = mz:=by rw [← HMz.out];unfold Q.mget;rw [getD_at hrk,getD_at hz]
                   rw [hmz] at hcz
                   have hcp9 : capm ≤ 9223372036854775807:=by unfold maxLen at hcp2;omega
                   subst hvm
                   clear hgk hrk hrl hkk hz hmz hcp2))
                        go_ret3
                        exact ⟨HE.out,HW1.out.trans ((HBw3.out.trans (HB37.out.mono hsz3)).mono hs1')⟩
                      · have hmb : ((mz : Int) == 1) = false:=by simp;omega
                        have HNx : Kept (∀ j,j < i + 1 → ¬ Q.roundAt p f j):=kp fun j hj h => by
                          by_cases e : j = i
                          · subst e
                            rcases HRd.out.1 h with h | h
                            · exact hkf0 h
                            · exact hm1 h
                          · exact HPreI.out j (by omega) h
                        clear hkf0 hm1
                        go_wp2_with (first
                | ((with_reducible show Sl 11);go_must (refine j7 rfl 66 rfl (ndC ⟨0,0,0,0⟩) jU ?_);intro g5 w6 hg5 hk6 hw6;have HG5:=kp hg5;have HK6:=kp hk6;have HW6:=kp hw6;clear hg5 hk6 hw6)
                | ((with_reducible show Sn);go_must (refine j5 rfl 66 (.tmp 11) (.tmp 123) rfl g5 (ndC x) rfl rfl _ _ HK6.out jD rfl (jK x) ?_);intro w7 hk7 hg7 hs7
                   obtain ⟨hx0,hx1,hx2,hx3⟩:=jB hk7
                   have HBq7:=kp (HW6.out.grown hg7 HW6.out.size (fun k hk => by cases hk;exact HG5.out))
                   have HB37:=kp (HBL.out.trans (HBq7.out.mono HBL.out.size))
                   clear hk7 hg7 hs7 hn0 hn1 hn2 hn3
                   rw [HKx.out] at hx1
                   obtain ⟨adm,gk,capm,rk,hvm,_,hgk,hrk,hrl,hck,hkk,_,_,hcp1,hcp2⟩:=(HMat.out.below HB37.out).get (a:=k) (by rw [HSq.out.1];exact hkn)
                   rw [HSq.out.1] at hvm hcp1
                   obtain ⟨z,hz⟩ : ∃ z,rk[f]? = some z:=⟨_,List.getElem?_eq_getElem (by omega)⟩
                   have hcz:=hkk.cell f
                   rw [List.getElem?_map,hz,Option.map_some,lG] at hcz
                   have hmz : z = mz:=by rw [← HMz.out];unfold Q.mget;rw [getD_at hrk,getD_at hz]
                   rw [hmz] at hcz
                   have hcp9 : capm ≤ 9223372036854775807:=by unfold maxLen at hcp2;omega
                   subst hvm
                   clear hgk hrk hrl hkk hz hmz hcp2))
                        go_roundw
                        case rel => exact ⟨i + 1,by omega,by go_num,HNx.out,HB37.out⟩
                        case measure => simp [intOf];omega
                  · have hz7 : (x.kind == 7) = false:=by simpa using h7
                    have HNx : Kept (∀ j,j < i + 1 → ¬ Q.roundAt p f j):=kp fun j hj h => by
                      by_cases e : j = i
                      · subst e
                        obtain ⟨fn2,nd,g1',g2',g3,_⟩:=h
                        rw [HX.out] at g1'
                        cases g1'
                        rw [HY.out] at g2'
                        cases g2'
                        exact h7 g3
                      · exact HPreI.out j (by omega) h
                    clear h7
                    go_wp2_with (first
                | ((with_reducible show Sl 11);go_must (refine j7 rfl 66 rfl (ndC ⟨0,0,0,0⟩) jU ?_);intro g5 w6 hg5 hk6 hw6;have HG5:=kp hg5;have HK6:=kp hk6;have HW6:=kp hw6;clear hg5 hk6 hw6)
                | ((with_reducible show Sn);go_must (refine j5 rfl 66 (.tmp 11) (.tmp 123) rfl g5 (ndC x) rfl rfl _ _ HK6.out jD rfl (jK x) ?_);intro w7 hk7 hg7 hs7
                   obtain ⟨hx0,hx1,hx2,hx3⟩:=jB hk7
                   have HBq7:=kp (HW6.out.grown hg7 HW6.out.size (fun k hk => by cases hk;exact HG5.out))
                   have HB37:=kp (HBL.out.trans (HBq7.out.mono HBL.out.size))
                   clear hk7 hg7 hs7 hn0 hn1 hn2 hn3))
                    go_roundw
                    case rel => exact ⟨i + 1,by omega,by go_num,HNx.out,HB37.out⟩
                    case measure => simp [intOf];omega
                · have HNx : Kept (∀ j,j < f + 1 → ¬ Q.badRound p j):=kp fun j hj h => by
                    by_cases e : j = f
                    · subst e
                      obtain ⟨i2,h2⟩:=h
                      by_cases hlt2 : i2 < i
                      · exact HPreI.out i2 hlt2 h2
                      · obtain ⟨fn2,nd,g1',g2',_⟩:=h2
                        rw [HX.out] at g1'
                        cases g1'
                        have:=(List.getElem?_eq_some_iff.1 g2').1
                        rw [HFl.out] at this
                        omega
                    · exact HPre.out j (by omega) h
                  have hge : fn.len ≤ i:=by omega
                  clear hli hok
                  go_wp2
                  go_roundw
                  case rel => exact ⟨f + 1,by omega,by go_num,HNx.out,HBL.out⟩
                  case measure => simp [intOf];omega
            · have HE:=kp (lB HC.out (Q.check_fine HCo.out HFine.out fun j hj => HPre.out j (by rw [HLen.out] at hj;omega)))
              have hge : p.len ≤ f:=by omega
              clear hlt
              go_wp2
              go_ret3
              exact ⟨HE.out,HW1.out.trans ((HBw3.out.trans (HBL.out.mono hsz3)).mono hs1')⟩
end Go.Proofs.YtoekiejipdabmaaDoor
