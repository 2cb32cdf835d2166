/- The document's own telling of nodes, walked: Row, size, May. -/
import Derived.Test.YtoekiejipdabmaaDoorPk1
import Derived.Test.YtoekiejipdabmaaDoorPk2
namespace Go.Proofs.YtoekiejipdabmaaDoor
open Go.RowKit
def rowsB : List ByteArray:=[⟨#[45,110,45]⟩,⟨#[103,110,45]⟩,⟨#[103,110,45]⟩,⟨#[108,110,45]⟩,⟨#[108,110,45]⟩,⟨#[102,110,115]⟩,⟨#[115,110,45]⟩,⟨#[102,110,45]⟩,⟨#[45,110,110]⟩,⟨#[45,45,45]⟩]
def rowB (k : Int) : ByteArray:=if k < 0 ∨ 9 < k then ⟨#[]⟩ else rowsB.getD k.toNat ⟨#[]⟩
theorem kinds (k : Int) (h0 : 0 ≤ k) (h9 : k ≤ 9) : k = 0 ∨ k = 1 ∨ k = 2 ∨ k = 3 ∨ k = 4 ∨ k = 5 ∨ k = 6 ∨ k = 7 ∨ k = 8 ∨ k = 9:=by omega
theorem Y3 (k : Int) (h0 : 0 ≤ k) (h9 : k ≤ 9) : (rowB k).size = 3 ∧ Q.row k ≠ []:=by
  rcases kinds k h0 h9 with h | h | h | h | h | h | h | h | h | h <;> subst h <;> decide
theorem Y4 (k : Int) (h0 : 0 ≤ k) (h9 : k ≤ 9) : (rowB k).toList.isEmpty = false:=by
  rcases kinds k h0 h9 with h | h | h | h | h | h | h | h | h | h <;> subst h <;> decide +kernel
theorem rowB_at (k : Int) (h0 : 0 ≤ k) (h9 : k ≤ 9) (i : Nat) (hi : i < 3) (hs : i < (rowB k).size) : (rowB k)[i].toNat = (Q.row k).getD i 0:=by
  have h3 : i = 0 ∨ i = 1 ∨ i = 2:=by omega
  rcases kinds k h0 h9 with h | h | h | h | h | h | h | h | h | h <;> subst h <;> rcases h3 with h | h | h <;> subst h <;> rfl
set_option maxRecDepth 100000 in
set_option maxHeartbeats 1600000 in
theorem XI (k : Int) (hk : I64 k) (s : ByteArray) (hs : rowB k = s) (w : World) :
    Calls Tryd.prog 40 #[.int .i64 k] w fun e w' => e = .returned (.string s) ∧ Below w.heap.size w w':=by
  have HS:=kp hs;clear hs
  obtain ⟨hk1,hk2⟩:=hk
  by_cases h : k < 0 ∨ 9 < k
  · have HE : Kept (⟨#[]⟩ = s):=kp <| by rw [← HS.out];unfold rowB;rw [if_pos h]
    rcases h with h | h
    · go_enter Tryd.func40,Tryd.ntmps40
      go_wp2
      go_ret
      exact ⟨congrArg (fun u => Ending.returned (Value.string u)) HE.out,Below.refl _ _⟩
    · go_enter Tryd.func40,Tryd.ntmps40
      go_wp2
      go_ret
      exact ⟨congrArg (fun u => Ending.returned (Value.string u)) HE.out,Below.refl _ _⟩
  · rcases kinds k (by omega) (by omega) with h | h | h | h | h | h | h | h | h | h
    all_goals subst h
    all_goals clear hk1 hk2
    all_goals go_enter Tryd.func40,Tryd.ntmps40
    all_goals go_wp2
    all_goals go_ret
    all_goals exact ⟨congrArg (fun u => Ending.returned (Value.string u)) HS.out,(Below.refl _ _).alloc (Nat.le_refl _) _⟩
set_option maxRecDepth 100000 in
set_option maxHeartbeats 1600000 in
theorem ref_size (p : Pg) (c : Nat) (nodes : Int) (hn : I64 nodes) (w : World) :
    Calls Tryd.prog 41 #[pgA p,.int .u8 (c : Int),.int .i64 nodes] w fun e w' => e = .returned (.int .i64 (Q.size p.g p.l p.s p.len c nodes)) ∧ Below w.heap.size w w':=by
  have HR : Kept (Q.size p.g p.l p.s p.len c nodes = Q.size p.g p.l p.s p.len c nodes):=kp rfl
  obtain ⟨r,hr⟩ : ∃ r,Q.size p.g p.l p.s p.len c nodes = r:=⟨_,rfl⟩
  have HRr:=kp hr
  rw [hr]
  clear HR hr
  obtain ⟨hn1,hn2⟩:=hn
  rw [jM]
  by_cases h1 : c = 103
  · have HE : Kept (p.g = r):=kp <| by rw [← HRr.out];unfold Q.size;rw [if_pos h1]
    subst h1
    go_enter Tryd.func41,Tryd.ntmps41
    go_wp2_with ((with_reducible refine j4 rfl 24 (.tmp 0) rfl (pgC p) rfl ?_);intro g1 w1 hg1 hk1 hw1;obtain ⟨hc0,hc1,hc2,hc3⟩:=j8 hk1;have HW1:=kp hw1;clear hg1 hk1 hw1)
    go_ret
    exact ⟨l7 HE.out,HW1.out⟩
  · by_cases h2 : c = 108
    · have HE : Kept (p.l = r):=kp <| by rw [← HRr.out];unfold Q.size;rw [if_neg h1,if_pos h2]
      subst h2
      go_enter Tryd.func41,Tryd.ntmps41
      go_wp2_with ((with_reducible refine j4 rfl 24 (.tmp 0) rfl (pgC p) rfl ?_);intro g1 w1 hg1 hk1 hw1;obtain ⟨hc0,hc1,hc2,hc3⟩:=j8 hk1;have HW1:=kp hw1;clear hg1 hk1 hw1)
      go_ret
      exact ⟨l7 HE.out,HW1.out⟩
    · by_cases h3 : c = 115
      · have HE : Kept (p.s = r):=kp <| by rw [← HRr.out];unfold Q.size;rw [if_neg h1,if_neg h2,if_pos h3]
        subst h3
        go_enter Tryd.func41,Tryd.ntmps41
        go_wp2_with ((with_reducible refine j4 rfl 24 (.tmp 0) rfl (pgC p) rfl ?_);intro g1 w1 hg1 hk1 hw1;obtain ⟨hc0,hc1,hc2,hc3⟩:=j8 hk1;have HW1:=kp hw1;clear hg1 hk1 hw1)
        go_ret
        exact ⟨l7 HE.out,HW1.out⟩
      · by_cases h4 : c = 102
        · have HE : Kept ((p.len : Int) = r):=kp <| by rw [← HRr.out];unfold Q.size;rw [if_neg h1,if_neg h2,if_neg h3,if_pos h4]
          subst h4
          go_enter Tryd.func41,Tryd.ntmps41
          go_wp2_with ((with_reducible refine j4 rfl 24 (.tmp 0) rfl (pgC p) rfl ?_);intro g1 w1 hg1 hk1 hw1;obtain ⟨hc0,hc1,hc2,hc3⟩:=j8 hk1;have HW1:=kp hw1;clear hg1 hk1 hw1)
          go_ret
          exact ⟨l7 HE.out,HW1.out⟩
        · by_cases h5 : c = 110
          · have HE : Kept (max nodes 1 = r):=kp <| by rw [← HRr.out];unfold Q.size;rw [if_neg h1,if_neg h2,if_neg h3,if_neg h4,if_pos h5]
            subst h5
            go_enter Tryd.func41,Tryd.ntmps41
            go_wp2_with ((with_reducible refine j4 rfl 24 (.tmp 0) rfl (pgC p) rfl ?_);intro g1 w1 hg1 hk1 hw1;obtain ⟨hc0,hc1,hc2,hc3⟩:=j8 hk1;have HW1:=kp hw1;clear hg1 hk1 hw1)
            all_goals go_ret
            all_goals exact ⟨l7 (by rw [← HE.out];omega),HW1.out⟩
          · have HE : Kept (1 = r):=kp <| by rw [← HRr.out];unfold Q.size;rw [if_neg h1,if_neg h2,if_neg h3,if_neg h4,if_neg h5]
            have e1 : ((c : Int) == 103) = false:=by simp;omega
            have e2 : ((c : Int) == 108) = false:=by simp;omega
            have e3 : ((c : Int) == 115) = false:=by simp;omega
            have e4 : ((c : Int) == 102) = false:=by simp;omega
            have e5 : ((c : Int) == 110) = false:=by simp;omega
            clear h1 h2 h3 h4 h5
            go_enter Tryd.func41,Tryd.ntmps41
            go_wp2_with ((with_reducible refine j4 rfl 24 (.tmp 0) rfl (pgC p) rfl ?_);intro g1 w1 hg1 hk1 hw1;obtain ⟨hc0,hc1,hc2,hc3⟩:=j8 hk1;have HW1:=kp hw1;clear hg1 hk1 hw1)
            go_ret
            exact ⟨l7 HE.out,HW1.out⟩
theorem jL : (Tryd.prog.info? 24).map (·.size) = some 4:=by kernel_rfl
set_option maxRecDepth 100000 in
set_option maxHeartbeats 1600000 in
theorem ref_may (p : Pg) (x : Nd) (hx : x.Ok) (nodes : Int) (hn : I64 nodes) (r : Bool) (hr : Q.may p.g p.l p.s p.len x nodes = r) (w : World) :
    Calls Tryd.prog 22 #[pgA p,ndA x,.int .i64 nodes] w fun e w' => e = .returned (.bool r) ∧ Below w.heap.size w w':=by
  have HR:=kp hr;have HX:=kp hx;have HNd:=kp hn
  obtain ⟨s,hs⟩ : ∃ s,rowB x.kind = s:=⟨_,rfl⟩
  have HS:=kp hs
  clear hr hx hn hs
  rw [jM,show ndA x = .agg (ndC x).toArray from rfl]
  by_cases hk : x.kind < 0 ∨ 9 < x.kind
  · have HE : Kept (false = r):=kp <| by rw [← HR.out];unfold Q.may Q.row;rw [if_pos hk];rfl
    have hse : s = ⟨#[]⟩:=by rw [← HS.out];unfold rowB;rw [if_pos hk]
    subst hse
    clear hk
    go_enter Tryd.func22,Tryd.ntmps22
    go_wp2_with (first
      | ((with_reducible refine j4 rfl 24 (.tmp 0) rfl (pgC p) rfl ?_);intro g1 w1 hg1 hk1 hw1;have HW1:=kp hw1;have hs1:=hw1.size;clear hg1 hk1 hw1)
      | ((with_reducible refine j4 rfl 66 (.tmp 1) rfl (ndC x) rfl ?_);intro g2 w2 hg2 hk2 hw2;obtain ⟨hc0,hc1,hc2,hc3⟩:=jB hk2;have HW2:=kp (HW1.out.trans (hw2.mono hs1));have hs2:=HW2.out.size;clear hg2 hk2 hw2)
      | (go_at_call 40;go_must (refine (XI x.kind HX.out.kind _ HS.out _).mono ?_);rintro e w3 ⟨rfl,hw3⟩;have HW3:=kp (HW2.out.trans (hw3.mono hs2));clear hw3))
    go_ret
    exact ⟨jG HE.out,HW3.out⟩
  · have hk0 : 0 ≤ x.kind:=by omega
    have hk9 : x.kind ≤ 9:=by omega
    obtain ⟨hs3,hrow⟩:=Y3 x.kind hk0 hk9
    have HAt : Kept (∀ (i : Nat) (hi : i < s.size),i < 3 → s[i].toNat = (Q.row x.kind).getD i 0):=kp fun i hi h3 => by
      have hs:=HS.out
      subst hs
      exact rowB_at x.kind hk0 hk9 i h3 hi
    rw [HS.out] at hs3
    have HMay : Kept (((List.range 3).all fun i => decide (0 ≤ (Q.fields x).getD i 0 ∧ (Q.fields x).getD i 0 < Q.size p.g p.l p.s p.len ((Q.row x.kind).getD i 0) nodes)) = r):=kp <| by rw [← HR.out];unfold Q.may;rw [decide_eq_true hrow];rfl
    have hse : s.toList.isEmpty = false:=by rw [← HS.out];exact Y4 x.kind hk0 hk9
    clear hk hk0 hk9 hrow
    go_enter Tryd.func22,Tryd.ntmps22
    go_wp2_with (first
      | ((with_reducible refine j4 rfl 24 (.tmp 0) rfl (pgC p) rfl ?_);intro g1 w1 hg1 hk1 hw1;have HK0:=kp hk1;have HW1:=kp hw1;have hs1:=hw1.size;clear hg1 hk1 hw1)
      | ((with_reducible refine j4 rfl 66 (.tmp 1) rfl (ndC x) rfl ?_);intro g2 w2 hg2 hk2 hw2;have HK2:=kp hk2;obtain ⟨hc0,hc1,hc2,hc3⟩:=jB hk2;have HW2:=kp (HW1.out.trans (hw2.mono hs1));have HK1:=kp (HK0.out.below hw2 HK0.out.lt);have hs2:=HW2.out.size;clear hg2 hk2 hw2)
      | (go_at_call 40;go_must (refine (XI x.kind HX.out.kind _ HS.out _).mono ?_);rintro e w3 ⟨rfl,hw3⟩;obtain ⟨hd0,hd1,hd2,hd3⟩:=jB (HK2.out.below hw3 HK2.out.lt);have HK3:=kp (HK1.out.below hw3 HK1.out.lt);have HW3:=kp (HW2.out.trans (hw3.mono hs2));have hs3':=HW3.out.size;clear hw3 hc0 hc1 hc2 hc3))
    obtain ⟨w4,e4,hm4,hb4⟩ : ∃ w4,w3.alloc (.cells #[.int .i64 x.arg,.int .i64 x.next,.int .i64 x.alt] 3) = w4 ∧ Row intV w4 w4.heap.size (some ⟨w3.heap.size,0,none⟩) 3 (Q.fields x) ∧ Below w3.heap.size w3 w4:=⟨_,rfl,Row.made intV w3 (Q.fields x) #[.int .i64 x.arg,.int .i64 x.next,.int .i64 x.alt] rfl 3,(Below.refl _ _).alloc (Nat.le_refl _) _⟩
    rw [e4]
    have HK4:=kp (HK3.out.below hb4 HK3.out.lt)
    have HW4:=kp (HW3.out.trans (hb4.mono hs3'))
    have HM4:=kp hm4
    have hs4:=HW4.out.size
    have hgw : w3.heap.size < w4.heap.size:=by rw [← e4];simp
    clear e4 hm4 hb4 hd0 hd1 hd2 hd3 HK0 HK2 HK3
    have HK1:=HK4
    go_loopw [9] (fun v9 wr => ∃ i : Nat,i ≤ 3 ∧ v9 = .int .i64 i ∧ Below w4.heap.size w4 wr ∧ ((List.range i).all fun i => decide (0 ≤ (Q.fields x).getD i 0 ∧ (Q.fields x).getD i 0 < Q.size p.g p.l p.s p.len ((Q.row x.kind).getD i 0) nodes)) = true) (fun v9 _ => 3 - (intOf v9).toNat)
    case atStart => exact ⟨0,by omega,rfl,Below.refl _ _,rfl⟩
    case round =>
      obtain ⟨i,hi,rfl,hbl,hall⟩:=hrel
      have hblz:=hbl.size
      have HBL:=kp hbl;have HAll:=kp hall
      have HK1:=kp (HK4.out.below hbl HK4.out.lt)
      clear hall hbl
      by_cases hlt : i < 3
      · obtain ⟨y,hy⟩ : ∃ y,(Q.fields x)[i]? = some y:=⟨_,List.getElem?_eq_getElem (by show i < 3;exact hlt)⟩
        have hyd : (Q.fields x).getD i 0 = y:=by rw [List.getD_eq_getElem?_getD,hy];rfl
        obtain ⟨c,hc⟩ : ∃ c,(Q.row x.kind).getD i 0 = c:=⟨_,rfl⟩
        have hsi : i < s.size:=by omega
        have hch : s[i].toNat = c:=by rw [HAt.out i hsi hlt,hc]
        obtain ⟨m,hm⟩ : ∃ m,Q.size p.g p.l p.s p.len c nodes = m:=⟨_,rfl⟩
        have HSz:=kp hm
        obtain ⟨d,hd⟩ : ∃ d,decide (0 ≤ y ∧ y < m) = d:=⟨_,rfl⟩
        have HNx : Kept (((List.range (i + 1)).all fun i => decide (0 ≤ (Q.fields x).getD i 0 ∧ (Q.fields x).getD i 0 < Q.size p.g p.l p.s p.len ((Q.row x.kind).getD i 0) nodes)) = d):=kp <| by
          rw [List.range_succ,List.all_append,HAll.out]
          simp only [List.all_cons,List.all_nil,Bool.and_true,Bool.true_and]
          rw [hyd,hc,hm,hd]
        have HNo : Kept (d = false → false = r):=kp fun h => by
          rw [← HMay.out]
          symm
          rw [List.all_eq_false]
          refine ⟨i,List.mem_range.2 hlt,?_⟩
          rw [hyd,hc,hm,hd,h]
          decide
        have HY:=kp hy;have HD:=kp hd
        have HCh:=kp hch
        clear hy hyd hc hm hd
        go_wp2
        apply jR (.is _ :: .is _ :: .is _ :: .is _ :: .is _ :: .is _ :: .is _ :: [])
          [[],[],[],[(1,28),(2,29)],[],[(0,27),(3,30),(4,31)],[(5,32)]]
          [(0,27),(1,28),(2,29),(3,30),(4,31),(5,32),(6,10)] (by kernel_rfl) (by kernel_rfl)
        case hob =>
          refine ⟨?o0,?o1,?o2,?o3,?o4,?o5,?o6,trivial⟩
          case o0 =>
            intro W hW;change wpList _ _ _ _ _ _
            refine j6 rfl 24 (.tmp 3) rfl g1 rfl _ (pgC p) _ (HK1.out.below hW HK1.out.lt) Tryd.underlying24 rfl jL ?_
            go_wp2;exact j3 rfl rfl rfl
          case o1 => intro W hW;change wpList _ _ _ _ _ _;go_wp2;exact j3 rfl rfl rfl
          case o2 => intro W hW;change wpList _ _ _ _ _ _;go_wp2;exact j3 rfl rfl rfl
          case o3 => intro W hW;rintro _ rfl;rintro _ rfl;change wpList _ _ _ _ _ _;go_wp2;exact j3 rfl rfl rfl
          case o4 => intro W hW;change wpList _ _ _ _ _ _;go_wp2;exact j3 rfl rfl rfl
          case o5 =>
            intro W hW;rintro _ rfl;rintro _ rfl;rintro _ rfl;change wpList _ _ _ _ _ _
            go_wp2_with (go_at_call 41;go_must (refine (ref_size p c nodes HNd.out _).mono ?_);rintro e2 w9 ⟨rfl,hw9⟩)
            exact jE rfl rfl rfl hw9 rfl
          case o6 => intro W hW;rintro _ rfl;change wpList _ _ _ _ _ _;go_wp2;exact j3 rfl rfl rfl
        case hend =>
          intro W hW;rintro _ rfl;rintro _ rfl;rintro _ rfl;rintro _ rfl;rintro _ rfl;rintro _ rfl;rintro _ rfl
          simp only [given,jI,List.set]
          have hcy : W.cell? ((⟨w3.heap.size,0,none⟩ : Addr).add i) = some (.int .i64 y):=by
            have h1:=HM4.out.cells (by omega)
            obtain ⟨ad,e1,hb,hcs⟩:=h1
            cases e1
            have hB : (((⟨w3.heap.size,0,none⟩ : Addr).add i)).block < w4.heap.size:=by rw [add_block];exact hgw
            rw [hW.cell (by omega),HBL.out.cell hB,hcs i hlt,HY.out]
            rfl
          rw [q5] at hcy
          have HBW : Kept (Below w4.heap.size w4 W):=kp (HBL.out.trans (hW.mono hblz))
          by_cases hd : 0 ≤ y ∧ y < m
          · obtain ⟨hd1,hd2⟩:=hd
            have hdt : d = true:=by rw [← HD.out,decide_eq_true ⟨hd1,hd2⟩]
            rw [HSz.out]
            go_wp2
            go_roundw
            case rel => exact ⟨i + 1,by omega,by go_num,HBW.out,by rw [HNx.out,hdt]⟩
            case measure => simp [intOf];omega
          · have hdf : d = false:=by rw [← HD.out,decide_eq_false hd]
            have HE:=kp (HNo.out hdf)
            rw [HSz.out]
            have HBF:=kp (HW4.out.trans (HBW.out.mono hs4))
            by_cases hy0 : y < 0
            · clear hd
              go_wp2
              go_ret
              exact ⟨jG HE.out,HBF.out⟩
            · have hym : m ≤ y:=by omega
              clear hd
              go_wp2
              go_ret
              exact ⟨jG HE.out,HBF.out⟩
      · have hge : 3 ≤ i:=by omega
        have HE : Kept (true = r):=kp <| by rw [← HMay.out,← HAll.out,show i = 3 by omega]
        clear hlt
        go_wp2
        go_ret
        exact ⟨jG HE.out,HW4.out.trans (HBL.out.mono hs4)⟩
end Go.Proofs.YtoekiejipdabmaaDoor
