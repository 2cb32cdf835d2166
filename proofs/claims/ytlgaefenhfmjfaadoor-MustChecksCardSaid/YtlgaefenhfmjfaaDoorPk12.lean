/- MustR2, MustR3, Skip. -/
import Derived.Test.YtlgaefenhfmjfaaDoorPk11
import Derived.Test.YtlgaefenhfmjfaaDoorKillR1
import Derived.Test.YtlgaefenhfmjfaaDoorPk8
import Derived.Laws.BitsAllLaws
import Derived.Test.YtlgaefenhfmjfaaDoorPk2
namespace Go.Proofs.YtlgaefenhfmjfaaDoor
open Go.RowKit
theorem uO {l : List Nd} {f : Nat} (hf : f < 32) : l.any (names 5 f) = true ↔ f ∈ namedL l 5:=by
  rw [zB,List.any_eq_true]
  constructor
  · rintro ⟨nd,h1,h2⟩
    unfold names at h2
    rw [Bool.and_eq_true,decide_eq_true_eq,decide_eq_true_eq] at h2
    exact ⟨hf,nd,h1,h2⟩
  · rintro ⟨_,nd,h1,h2,h3⟩
    exact ⟨nd,h1,by unfold names;rw [Bool.and_eq_true,decide_eq_true_eq,decide_eq_true_eq];exact ⟨h2,h3⟩⟩
set_option maxRecDepth 100000 in
set_option maxHeartbeats 3200000 in
theorem XM (B : Nat) (p : Pg) (w : World) (hp : p.Ok w B) (hB : B ≤ w.heap.size) (hs : Q.small p = true) (f : Nat) (hf : f < 32) (r : Bool) (hr : (p.fns.any fun fn => fn.nodes.any (names 5 f)) = r) :
    Calls Tryd.prog 24 #[pgA p,.int .i64 (f : Int)] w fun e w' => e = .returned (.bool r) ∧ Below w.heap.size w w':=by
  have HP:=kp hp;have HR:=kp hr;have HS:=kp hs
  have HLen:=kp hp.row.len
  have hpc:=hp.lc;have hpm:=hp.cm
  unfold maxLen at hpm
  clear hp hr hs
  rw [jL]
  go_enter Tryd.func24,Tryd.ntmps24
  go_wp2_with (first
    | ((with_reducible refine j4 rfl 24 (.tmp 0) rfl (pgC p) rfl ?_);intro g1 w1 hg1 hk1 hw1;have HW1:=kp hw1;have HK1:=kp hk1;obtain ⟨hc0,hc1,hc2,hc3⟩:=j8 hk1;clear hg1 hk1 hw1))
  have hs1:=HW1.out.size
  go_loopw [5] (fun v5 wr => ∃ g : Nat,g ≤ p.len ∧ v5 = .int .i64 g ∧ (∀ fn ∈ p.fns.take g,fn.nodes.any (names 5 f) = false) ∧ Below w1.heap.size w1 wr) (fun v5 _ => p.len - (intOf v5).toNat)
  case atStart => exact ⟨0,by omega,rfl,fun fn h => by simp at h,Below.refl _ _⟩
  case round =>
    clear hc0 hc1 hc2 hc3
    obtain ⟨g,hg,rfl,hall,hbw⟩:=hrel
    have HAll:=kp hall;have HBw:=kp hbw;have HW:=kp (HW1.out.trans (hbw.mono hs1))
    have HKr:=kp (HK1.out.below hbw HK1.out.lt)
    have hsr:=hbw.size;have hsW:=HW.out.size
    obtain ⟨hc0,hc1,hc2,hc3⟩:=j8 HKr.out
    clear hall hbw
    by_cases hlt : g < p.len
    · obtain ⟨ad,fn,e0,_,hfn,hfok,hcf⟩:=(HP.out.below (HW.out.mono hB)).fn hlt
      have HFn:=kp hfn;have HFok:=kp hfok
      have hfl100:=xH HS.out hfn
      have hfl:=hfok.nodes.1.len
      have hfl' : fn.len ≤ 1000000:=by omega
      have hfc:=hfok.lc;have hfm:=hfok.cm
      unfold maxLen at hfm
      have hBr : B ≤ wr.heap.size:=Nat.le_trans hB hsW
      obtain ⟨n4,hn4⟩ : ∃ n4,(namedL fn.nodes 5).length = n4:=⟨_,rfl⟩
      have HN4:=kp hn4
      rw [e0] at hc3
      clear hfn hfok hn4
      go_wp2_with (first
        | (go_at_call 44;fail))
      refine (uJ B fn.A fn.len fn.cap fn.nodes 5 wr HFok.out.nodes hfl' hBr).mono ?_
      rintro e w4 ⟨v4,rfl,hown4,hb4⟩
      obtain ⟨A4,c4,rfl,hcl4,hcm4,hr4⟩:=hown4.readsN HN4.out
      have HR4:=kp hr4
      have HB4:=kp (HBw.out.trans (hb4.mono hsr));have HW4:=kp (HW.out.trans (hb4.mono hsW))
      unfold maxLen at hcm4
      clear hown4 hr4 hb4 hc0 hc1 hc2 hc3 hcf
      have hs4:=HW4.out.size
      go_wp2
      go_loopw [7] (fun v7 wi => ∃ i : Nat,i ≤ n4 ∧ v7 = .int .i64 i ∧ (∀ y ∈ (namedL fn.nodes 5).take i,y ≠ f) ∧ wi = w4) (fun v7 _ => n4 - (intOf v7).toNat)
      case atStart => exact ⟨0,by omega,rfl,fun y hy => by simp at hy,rfl⟩
      case round =>
        obtain ⟨i,hi,rfl,hne,rfl⟩:=hrel
        have HNe:=kp hne
        clear hne
        by_cases hil : i < n4
        · obtain ⟨ad4,y,rfl,_,hy,hcy⟩:=HR4.out.get hil
          rw [l4] at hcy
          have HY:=kp hy
          by_cases hyf : y = f
          · subst hyf
            have hyb : ((y : Int) == (y : Int)) = true:=by simp
            have HE : Kept (true = r):=kp (by
              rw [← HR.out]
              exact (List.any_eq_true.2 ⟨fn,List.mem_of_getElem? HFn.out,(uO hf).2 (List.mem_of_getElem? HY.out)⟩).symm)
            clear hy
            go_wp2
            go_ret
            exact ⟨jC HE.out,HW4.out⟩
          · have hyb : ((y : Int) == (f : Int)) = false:=by simp;omega
            have HYf:=kp hyf
            clear hy hyf
            go_wp2
            go_roundw
            case rel => exact ⟨i + 1,by omega,by go_num,(fun z hz => by
              rw [List.take_add_one,HY.out] at hz
              simp only [Option.toList_some,List.mem_append,List.mem_singleton] at hz
              rcases hz with hz | rfl
              · exact HNe.out z hz
              · exact HYf.out),(by trivial)⟩
            case measure => simp [intOf];omega
        · have HNo : Kept (fn.nodes.any (names 5 f) = false):=kp (by
            cases e : fn.nodes.any (names 5 f) with
            | false => rfl
            | true =>
              have h1:=(uO hf).1 e
              have h2:=HNe.out
              rw [List.take_of_length_le (by rw [HN4.out];omega)] at h2
              exact absurd rfl (h2 f h1))
          have hge : n4 ≤ i:=by omega
          clear hil
          go_wp2
          go_roundw
          case rel => exact ⟨g + 1,by omega,by go_num,(fun fx hx => by
            rw [List.take_add_one,HFn.out] at hx
            simp only [Option.toList_some,List.mem_append,List.mem_singleton] at hx
            rcases hx with hx | rfl
            · exact HAll.out fx hx
            · exact HNo.out),HB4.out⟩
          case measure => simp [intOf];omega
    · have HE : Kept (false = r):=kp (by
        rw [← HR.out]
        have h1:=HAll.out
        rw [List.take_of_length_le (by rw [HLen.out];omega)] at h1
        symm
        rw [List.any_eq_false]
        intro fx hx
        rw [h1 fx hx]
        simp)
      have hge : p.len ≤ g:=by omega
      clear hlt
      go_wp2
      go_ret
      exact ⟨jC HE.out,HW.out⟩
theorem yS {a b k : Nat} (hb : b < 4294967296) (hk : k < 32) : (a &&& (4294967295 - b)).testBit k = (a.testBit k && !b.testBit k):=by
  rw [Nat.testBit_and]
  have e : 4294967295 - b = 2 ^ 32 - (b + 1):=by omega
  rw [e,Nat.testBit_two_pow_sub_succ (by omega),decide_eq_true hk,Bool.true_and]
theorem QY (a : Int) {k : Nat} (hk : k < 32) : (S.one a).testBit k = ((k : Int) == a):=by
  have h:=(qQ a).2 k hk
  rw [Bool.eq_iff_iff,h]
  simp
theorem QS {p : Pg} {ls : List Sc} {n : Nd} {h k : Nat} (hk : k < 32) (h7 : n.kind = 7 → n.arg.toNat < p.len) : (Mu.behind (killL p 4 4) ls n h).testBit k =
    if n.kind = 3 then h.testBit k || ((k : Int) == n.arg) else if n.kind = 4 then h.testBit k && ((k : Int) != n.arg) else if n.kind = 7 then (h.testBit k && !(S.mask (setL (MayDo p 4 4 n.arg.toNat))).testBit k) || (ls.getD n.arg.toNat default).ex.testBit k else h.testBit k:=by
  unfold Mu.behind
  split
  · rw [Nat.testBit_or,QY _ hk]
  · split
    · rw [yS (S.one_lt _) hk,QY _ hk];rfl
    · split
      · rename_i h1
        have h2 : (killL p 4 4).getD n.arg.toNat 0 = S.mask (setL (MayDo p 4 4 n.arg.toNat)):=by rw [List.getD_eq_getElem?_getD,vY (h7 h1)];rfl
        rw [Nat.testBit_or,h2,yS (qN _).1 hk]
      · rfl
set_option maxRecDepth 100000 in
set_option maxHeartbeats 3200000 in
theorem vN (B : Nat) (p : Pg) (w : World) (hp : p.Ok w B) (hB : B ≤ w.heap.size) (hs : Q.small p = true) (h32 : p.len ≤ 32) (lA : Option Addr) (lc : Nat) (ls : List Sc) (hl : Secs w B lA p.len ls)
    (n : Nd) (_hn : n.Ok) (hf : n.kind = 7 → ∃ j : Nat,n.arg = (j : Int) ∧ j < p.len) (h : Nat) (k : Nat) (hk : k < 32) (b : Bool) (hb : h.testBit k = b) (r : Bool) (hr : (Mu.behind (killL p 4 4) ls n h).testBit k = r) :
    Calls Tryd.prog 47 #[pgA p,.slice lA p.len lc,ndA n,.int .i64 (k : Int),.bool b] w fun e w' => e = .returned (.bool r) ∧ Below w.heap.size w w':=by
  have HP:=kp hp;have HL:=kp hl;have HS:=kp hs
  have hr2:=hr
  rw [QS hk (fun h7 => by obtain ⟨j,e,h1⟩:=hf h7;omega),hb] at hr2
  clear hp hl hs hr
  rw [jL,show ndA n = .agg (ndC n).toArray from rfl]
  go_enter Tryd.func47,Tryd.ntmps47
  by_cases h3 : n.kind = 3
  · have hk3 : (n.kind == 3) = true:=by simpa using h3
    rw [if_pos h3] at hr2
    cases b with
    | false =>
      have HE : Kept (((k : Int) == n.arg) = r):=kp (by simpa using hr2)
      clear h3 hr2
      go_wp2_with (first
        | ((with_reducible refine j4 rfl 24 (.tmp 0) rfl (pgC p) rfl ?_);intro g1 w1 hg1 hk1 hw1;have HW1:=kp hw1;have HK1:=kp hk1;have hs1:=hw1.size;clear hg1 hk1 hw1)
        | ((with_reducible refine j4 rfl 63 (.tmp 2) rfl (ndC n) rfl ?_);intro g2 w2 hg2 hk2 hw2;have HK2:=kp hk2;have HKa:=kp (HK1.out.below hw2 HK1.out.lt);have HW2:=kp (HW1.out.trans (hw2.mono hs1));obtain ⟨hc0,hc1,hc2,hc3⟩:=j9 hk2;clear hg2 hk2 hw2))
      go_ret
      exact ⟨jC HE.out,HW2.out⟩
    | true =>
      have HE : Kept (true = r):=kp (by simpa using hr2)
      clear h3 hr2
      go_wp2_with (first
        | ((with_reducible refine j4 rfl 24 (.tmp 0) rfl (pgC p) rfl ?_);intro g1 w1 hg1 hk1 hw1;have HW1:=kp hw1;have HK1:=kp hk1;have hs1:=hw1.size;clear hg1 hk1 hw1)
        | ((with_reducible refine j4 rfl 63 (.tmp 2) rfl (ndC n) rfl ?_);intro g2 w2 hg2 hk2 hw2;have HK2:=kp hk2;have HKa:=kp (HK1.out.below hw2 HK1.out.lt);have HW2:=kp (HW1.out.trans (hw2.mono hs1));obtain ⟨hc0,hc1,hc2,hc3⟩:=j9 hk2;clear hg2 hk2 hw2))
      go_ret
      exact ⟨jC HE.out,HW2.out⟩
  have hk3 : (n.kind == 3) = false:=by simpa using h3
  rw [if_neg h3] at hr2
  by_cases h4 : n.kind = 4
  · have hk4 : (n.kind == 4) = true:=by simpa using h4
    rw [if_pos h4] at hr2
    cases b with
    | false =>
      have HE : Kept (false = r):=kp (by simpa using hr2)
      clear h3 h4 hr2
      go_wp2_with (first
        | ((with_reducible refine j4 rfl 24 (.tmp 0) rfl (pgC p) rfl ?_);intro g1 w1 hg1 hk1 hw1;have HW1:=kp hw1;have HK1:=kp hk1;have hs1:=hw1.size;clear hg1 hk1 hw1)
        | ((with_reducible refine j4 rfl 63 (.tmp 2) rfl (ndC n) rfl ?_);intro g2 w2 hg2 hk2 hw2;have HK2:=kp hk2;have HKa:=kp (HK1.out.below hw2 HK1.out.lt);have HW2:=kp (HW1.out.trans (hw2.mono hs1));obtain ⟨hc0,hc1,hc2,hc3⟩:=j9 hk2;clear hg2 hk2 hw2))
      go_ret
      exact ⟨jC HE.out,HW2.out⟩
    | true =>
      have HE : Kept (((k : Int) != n.arg) = r):=kp (by simpa using hr2)
      clear h3 h4 hr2
      go_wp2_with (first
        | ((with_reducible refine j4 rfl 24 (.tmp 0) rfl (pgC p) rfl ?_);intro g1 w1 hg1 hk1 hw1;have HW1:=kp hw1;have HK1:=kp hk1;have hs1:=hw1.size;clear hg1 hk1 hw1)
        | ((with_reducible refine j4 rfl 63 (.tmp 2) rfl (ndC n) rfl ?_);intro g2 w2 hg2 hk2 hw2;have HK2:=kp hk2;have HKa:=kp (HK1.out.below hw2 HK1.out.lt);have HW2:=kp (HW1.out.trans (hw2.mono hs1));obtain ⟨hc0,hc1,hc2,hc3⟩:=j9 hk2;clear hg2 hk2 hw2))
      go_ret
      exact ⟨jC HE.out,HW2.out⟩
  have hk4 : (n.kind == 4) = false:=by simpa using h4
  rw [if_neg h4] at hr2
  by_cases h7 : n.kind = 7
  rotate_left
  · have hk7 : (n.kind == 7) = false:=by simpa using h7
    rw [if_neg h7] at hr2
    have HE:=kp hr2
    clear h3 h4 h7 hr2
    go_wp2_with (first
      | ((with_reducible refine j4 rfl 24 (.tmp 0) rfl (pgC p) rfl ?_);intro g1 w1 hg1 hk1 hw1;have HW1:=kp hw1;have HK1:=kp hk1;have hs1:=hw1.size;clear hg1 hk1 hw1)
      | ((with_reducible refine j4 rfl 63 (.tmp 2) rfl (ndC n) rfl ?_);intro g2 w2 hg2 hk2 hw2;have HK2:=kp hk2;have HKa:=kp (HK1.out.below hw2 HK1.out.lt);have HW2:=kp (HW1.out.trans (hw2.mono hs1));obtain ⟨hc0,hc1,hc2,hc3⟩:=j9 hk2;clear hg2 hk2 hw2))
    go_ret
    exact ⟨jC HE.out,HW2.out⟩
  have hk7 : (n.kind == 7) = true:=by simpa using h7
  rw [if_pos h7] at hr2
  obtain ⟨j,hj,hjl⟩:=hf h7
  obtain ⟨cs,hcs⟩ : ∃ cs,setL (MayDo p 4 4 j) = cs:=⟨_,rfl⟩
  rw [hj,Int.toNat_natCast] at hr2
  have HMem : Kept (∀ x,x ∈ cs ↔ x < 32 ∧ (S.mask cs).testBit x = true):=kp (fun x => by
    rw [← hcs,setL_mem]
    exact and_congr_right fun hx => ((qN _).2 x hx).symm)
  rw [hcs] at hr2
  obtain ⟨ncs,hncs⟩ : ∃ ncs,cs.length = ncs:=⟨_,rfl⟩
  have hn32 : ncs ≤ 32:=by rw [← hncs,← hcs];exact setL_len _
  have HNc:=kp hncs
  obtain ⟨x,hx0⟩ : ∃ x,ls[j]? = some x:=⟨_,List.getElem?_eq_getElem (by rw [HL.out.len_];exact hjl)⟩
  have HX0:=kp hx0
  have hx2 : ls.getD j default = x:=by rw [List.getD_eq_getElem?_getD,hx0];rfl
  rw [hx2] at hr2
  obtain ⟨xe,hxe⟩ : ∃ q,x.ex.testBit k = q:=⟨_,rfl⟩
  have HXe : Kept (S.has x.ex (k : Int) = xe):=kp (by rw [S.has_in _ _ (by omega)];exact hxe)
  rw [hxe] at hr2
  obtain ⟨gn0,hgn0⟩ : ∃ q,(S.mask cs).testBit k = q:=⟨_,rfl⟩
  have HGn0:=kp hgn0
  rw [hgn0] at hr2
  have HR:=kp hr2
  have HCs:=kp hcs;have HJ:=kp hj
  have HX : Kept (x.ex < 4294967296):=kp (HL.out.2 x (List.mem_of_getElem? hx0)).ex
  clear h3 h4 h7 hr2 hb hcs hx0 hx2 hxe hgn0 hj hncs
  go_wp2_with (first
    | ((with_reducible refine j4 rfl 24 (.tmp 0) rfl (pgC p) rfl ?_);intro g1 w1 hg1 hk1 hw1;have HW1:=kp hw1;have HK1:=kp hk1;have hs1:=hw1.size;clear hg1 hk1 hw1)
    | ((with_reducible refine j4 rfl 63 (.tmp 2) rfl (ndC n) rfl ?_);intro g2 w2 hg2 hk2 hw2;have HK2:=kp hk2;have HKa:=kp (HK1.out.below hw2 HK1.out.lt);have HW2:=kp (HW1.out.trans (hw2.mono hs1));obtain ⟨hc0,hc1,hc2,hc3⟩:=j9 hk2;rw [HJ.out] at hc1;clear hg2 hk2 hw2)
    | ((with_reducible show Sl 36);go_must (refine j6 rfl 24 (.tmp 5) rfl g1 rfl _ (pgC p) _ HKa.out Tryd.underlying24 rfl jH ?_))
    | (go_at_call 69;fail))
  refine (Q6 B p w2 (HP.out.below (HW2.out.mono hB)) (Nat.le_trans hB HW2.out.size) HS.out h32 j hjl 4 4 cs HCs.out).mono ?_
  rintro e w4 ⟨v4,rfl,hown4,hb4⟩
  obtain ⟨A4,c4,rfl,hcl4,hcm4,hr4⟩:=hown4.readsN HNc.out
  have HR4:=kp hr4
  have HW4:=kp (HW2.out.trans (hb4.mono HW2.out.size))
  have HK4:=kp (HK2.out.below hb4 HK2.out.lt)
  unfold maxLen at hcm4
  clear hown4 hr4 hb4 hc0 hc1 hc2 hc3
  obtain ⟨hc0,hc1,hc2,hc3⟩:=j9 HK4.out
  rw [HJ.out] at hc1
  obtain ⟨ad,x',rfl,_,hx',hxok,hd0,hd1,hd2,hd5⟩:=(HL.out.below (HW4.out.mono hB)).get hjl
  obtain rfl : x = x':=by rw [HX0.out] at hx';exact Option.some.inj hx'
  have hjl2 : (j : Int) < (p.len : Int):=by omega
  clear hx' hxok
  go_wp2
  go_loop [11,13] (fun v11 v13 => ∃ (i : Nat) (g : Bool),i ≤ ncs ∧ v13 = .int .i64 i ∧ v11 = .bool g ∧ (g = true ↔ k ∈ cs.take i)) (fun _ v13 => ncs - (intOf v13).toNat)
  case atStart => exact ⟨0,false,by omega,rfl,rfl,by simp⟩
  case round =>
    obtain ⟨i,gn,hi,rfl,rfl,hg⟩:=hrel
    have HG:=kp hg
    clear hg
    by_cases hil : i < ncs
    · obtain ⟨ad4,y,rfl,_,hy,hcy⟩:=HR4.out.get hil
      rw [l4] at hcy
      have HY:=kp hy
      have HNext : Kept (k ∈ cs.take (i + 1) ↔ k ∈ cs.take i ∨ y = k):=kp (by
        rw [List.take_add_one,HY.out]
        simp only [Option.toList_some,List.mem_append,List.mem_singleton]
        exact or_congr Iff.rfl ⟨fun e => e.symm,fun e => e.symm⟩)
      clear hy
      cases gn with
      | true =>
        go_wp2
        go_round
        case rel => exact ⟨i + 1,true,by omega,by go_num,rfl,by rw [HNext.out,← HG.out];simp⟩
        case measure => simp [intOf];omega
      | false =>
        by_cases hyk : y = k
        · have hyb : ((y : Int) == (k : Int)) = true:=by simp;omega
          have HYk:=kp hyk
          clear hyk
          go_wp2
          go_round
          case rel => exact ⟨i + 1,true,by omega,by go_num,rfl,by rw [HNext.out];simp [HYk.out]⟩
          case measure => simp [intOf];omega
        · have hyb : ((y : Int) == (k : Int)) = false:=by simp;omega
          have HYk:=kp hyk
          clear hyk
          go_wp2
          go_round
          case rel => exact ⟨i + 1,false,by omega,by go_num,rfl,by rw [HNext.out,← HG.out];simp [HYk.out]⟩
          case measure => simp [intOf];omega
    · have HEq : Kept (gn = gn0):=kp (by
        have h1:=HG.out
        rw [List.take_of_length_le (by rw [HNc.out];omega),HMem.out k,HGn0.out] at h1
        rw [Bool.eq_iff_iff,h1]
        exact ⟨fun h => h.2,fun h => ⟨hk,h⟩⟩)
      have HEv : Kept ((b && !gn || xe) = r):=kp (by rw [HEq.out];exact HR.out)
      have hge : ncs ≤ i:=by omega
      clear hil HG HEq HR
      cases b with
      | false =>
        cases xe with
        | false =>
          have HE:=HEv
          go_wp2_with (first
            | (go_at_call 45;go_must (refine (l6 x.ex HX.out (k : Int) ⟨by omega,by omega⟩ _ HXe.out _).mono ?_);rintro e w9 ⟨rfl,rfl⟩))
          go_ret
          exact ⟨jC HE.out,HW4.out⟩
        | true =>
          have HE:=HEv
          go_wp2_with (first
            | (go_at_call 45;go_must (refine (l6 x.ex HX.out (k : Int) ⟨by omega,by omega⟩ _ HXe.out _).mono ?_);rintro e w9 ⟨rfl,rfl⟩))
          go_ret
          exact ⟨jC HE.out,HW4.out⟩
      | true =>
        cases gn with
        | false =>
          have HE:=HEv
          go_wp2
          go_ret
          exact ⟨jC HE.out,HW4.out⟩
        | true =>
          cases xe with
          | false =>
            have HE:=HEv
            go_wp2_with (first
              | (go_at_call 45;go_must (refine (l6 x.ex HX.out (k : Int) ⟨by omega,by omega⟩ _ HXe.out _).mono ?_);rintro e w9 ⟨rfl,rfl⟩))
            go_ret
            exact ⟨jC HE.out,HW4.out⟩
          | true =>
            have HE:=HEv
            go_wp2_with (first
              | (go_at_call 45;go_must (refine (l6 x.ex HX.out (k : Int) ⟨by omega,by omega⟩ _ HXe.out _).mono ?_);rintro e w9 ⟨rfl,rfl⟩))
            go_ret
            exact ⟨jC HE.out,HW4.out⟩
end Go.Proofs.YtlgaefenhfmjfaaDoor
