/- WireRef1, WireRef2, WitR4. -/
import Derived.Test.YtcbfghcdbmlneaaPk2
import Derived.Test.YtcbfghcdbmlneaaPk1
import Derived.Test.YtcbfghcdbmlneaaPk3
import Derived.Deep.RegionWith
import Derived.Test.YtcbfghcdbmlneaaPk5
import Derived.BigQuiet
namespace Go.Proofs.Ytcbfghcdbmlneaa
open Go.RowKit
def rdC (A : Option Addr) (n c : Nat) (s : R.St) : List Value:=[.slice A n c,.int .i64 (s.at_ : Int),.int .i64 (s.wh : Int),.int .i64 (s.why : Int)]
def Rd (w : World) (g : Nat) (A : Option Addr) (n c : Nat) (s : R.St) : Prop:=Blk w g 86 (rdC A n c s)
theorem Rd.cells {w : World} {g : Nat} {A : Option Addr} {n c : Nat} {s : R.St} (h : Rd w g A n c s) :
    w.cell? ⟨g,0,none⟩ = some (.slice A n c) ∧ w.cell? ⟨g,1,none⟩ = some (.int .i64 (s.at_ : Int)) ∧ w.cell? ⟨g,2,none⟩ = some (.int .i64 (s.wh : Int)) ∧ w.cell? ⟨g,3,none⟩ = some (.int .i64 (s.why : Int)) ∧
      w.frozen? ⟨g,1,none⟩ = false ∧ w.frozen? ⟨g,2,none⟩ = false ∧ w.frozen? ⟨g,3,none⟩ = false :=
  ⟨Blk.cell h 0,Blk.cell h 1,Blk.cell h 2,Blk.cell h 3,Blk.frozen h 1,Blk.frozen h 2,Blk.frozen h 3⟩
theorem Rd.drewN {w : World} {g : Nat} {A : Option Addr} {n c : Nat} {s : R.St} (h : Rd w g A n c s) (k : Nat) : Rd (w.drewN k) g A n c s:=h
set_option maxRecDepth 100000 in
set_option maxHeartbeats 800000 in
theorem vJ (g : Nat) (A : Option Addr) (n c : Nat) (s : R.St) (e : Nat) (s' : R.St) (hs' : R.fail s e = s') (w : World) (hk : Rd w g A n c s) :
    Calls Try.prog 40 #[.pointer (some ⟨g,0,none⟩),.int .i64 (e : Int)] w fun r w' => r = .returned (.tuple #[]) ∧ Rd w' g A n c s' ∧ w.grownBy w' (some g):=by
  obtain ⟨_,hc1,hc2,hc3,hf1,hf2,hf3⟩:=hk.cells
  have HK:=kp hk;have HS:=kp hs'
  clear hk hs'
  obtain ⟨at_,wh,why⟩:=s
  simp only at hc1 hc2 hc3
  by_cases h : why = 0
  · have hz : ((why : Int) == 0) = true:=by simp;omega
    have HE : Kept (⟨at_,at_,e⟩ = s'):=kp <| by rw [← HS.out];unfold R.fail;rw [if_pos h]
    clear h
    go_enter Try.func40,Try.ntmps40
    go_wp2
    go_end0
    refine ⟨rfl,?_,jN (jN (jK _ _))⟩
    rw [← HE.out]
    exact (HK.out.set 2 _).set 3 _
  · have hz : ((why : Int) == 0) = false:=by simp;omega
    have HE : Kept (⟨at_,wh,why⟩ = s'):=kp <| by rw [← HS.out];unfold R.fail;rw [if_neg h]
    clear h
    go_enter Try.func40,Try.ntmps40
    go_wp2
    go_end0
    exact ⟨rfl,by rw [← HE.out];exact HK.out,jK _ _⟩
set_option maxRecDepth 100000 in
set_option maxHeartbeats 1600000 in
theorem zO (g B : Nat) (A : Option Addr) (n c : Nat) (bs : List Nat) (s : R.St) (hs : R.Ok bs s) (most : Int) (x : Nat) (s' : R.St) (hx : R.num bs s most = (x,s')) (w : World) (hk : Rd w g A n c s)
    (hr : Row byteV w B A n bs) (hb : ∀ x ∈ bs,x < 256) (hnc : n ≤ c) (hm : c ≤ maxLen) (hBg : B ≤ g) (hBw : B ≤ w.heap.size) :
    Calls Try.prog 39 #[.pointer (some ⟨g,0,none⟩),.int .i64 most] w fun r w' => r = .returned (.int .i64 (x : Int)) ∧ Rd w' g A n c s' ∧ w.grownBy w' (some g) ∧ Row byteV w' B A n bs:=by
  obtain ⟨hc0,hc1,hc2,hc3,hf1,hf2,hf3⟩:=hk.cells
  have HK:=kp hk;have HR:=kp hr;have HB:=kp hb;have HS:=kp hs
  have hlen:=hr.len
  have hat:=hs.1
  have hgs:=hk.lt
  have HX:=kp hx
  have HM:=kp hm
  unfold maxLen at hm
  clear hk hr hb hs hx
  by_cases h : s.why = 0
  · have hz : ((s.why : Int) != 0) = false:=by simp;omega
    obtain ⟨y,hy⟩ : ∃ y,(V.get (bs.drop s.at_)).1 = y:=⟨_,rfl⟩
    obtain ⟨u,hu⟩ : ∃ y,(V.get (bs.drop s.at_)).2.1 = y:=⟨_,rfl⟩
    obtain ⟨e,he⟩ : ∃ y,(V.get (bs.drop s.at_)).2.2 = y:=⟨_,rfl⟩
    have hbd : ∀ x ∈ bs.drop s.at_,x < 256:=fun x hx => HB.out x (List.mem_of_mem_drop hx)
    obtain ⟨hy1,hu1,he1⟩:=V.get_small (bs.drop s.at_) hbd
    rw [hy] at hy1;rw [hu] at hu1;rw [he] at he1
    have HBD:=kp hbd
    have HG : Kept (V.get (bs.drop s.at_) = (y,u,e)):=kp <| by rw [← hy,← hu,← he]
    have HNum : Kept ((if e = 0 then if most < (y : Int) then (0,R.fail s 4) else (y,⟨s.at_ + u,s.wh,0⟩) else (0,R.fail s e)) = (x,s')):=kp <| by
      rw [← HX.out];unfold R.num;rw [if_pos h,he,hy,hu]
    have HCut:=kp (HR.out.cutOpt (l:=s.at_) (c:=c) (by omega) hnc)
    have HGet : Kept (∀ W : World,Row byteV W B (if c = s.at_ then A else A.map (·.add s.at_)) (n - s.at_) (bs.drop s.at_) → Calls Try.prog 63 #[.slice (if c = s.at_ then A else A.map (·.add s.at_)) (n - s.at_) (c - s.at_)] W fun r w' => r = .returned (.tuple #[.int .i64 (y : Int),.int .i64 (u : Int),.int .i64 (e : Int)]) ∧ W = w'):=kp <| fun W hW => by
      have:=YW B _ (n - s.at_) (c - s.at_) (bs.drop s.at_) W hW HBD.out (by unfold maxLen;omega)
      rw [HG.out] at this
      exact this
    obtain ⟨at_,wh,why⟩:=s
    simp only at *
    have HW0 : Kept (why = 0):=kp h
    clear hbd hy hu he h
    have hatn : at_ ≤ n:=by omega
    have HRd : Kept (∀ k,Rd (w.drewN k) g A n c ⟨at_,wh,why⟩):=kp fun k => HK.out
    by_cases h0 : e = 0
    · have hze : ((e : Int) != 0) = false:=by simp;omega
      have hau : at_ + u ≤ n:=by
        have h1:=(V.get_once (bs.drop at_) HBD.out (by rw [HG.out];exact h0)).2.2
        rw [HG.out,List.length_drop] at h1
        simp only at h1
        omega
      have hm9 : c ≤ 9223372036854775807:=by omega
      by_cases hmo : most < (y : Int)
      · have HE:=kp ((show (if e = 0 then if most < (y : Int) then ((0 : Nat),R.fail (⟨at_,wh,why⟩ : R.St) 4) else (y,⟨at_ + u,wh,0⟩) else (0,R.fail ⟨at_,wh,why⟩ e)) = (0,R.fail ⟨at_,wh,why⟩ 4) by rw [if_pos h0,if_pos hmo]).symm.trans HNum.out)
        go_enter Try.func39,Try.ntmps39
        go_wp2
        go_quiet ((go_at_call 63;exact x7 (HGet.out _ (HCut.out.drewN _))))
        generalize (if c = at_ then A else A.map (·.add at_)) = A2
        go_wp2_with (go_at_call 40;go_must (refine (vJ g A n c ⟨at_,wh,why⟩ 4 _ rfl _ (HRd.out _)).mono ?_);rintro e2 w2 ⟨rfl,hk2,hg2⟩;have HK2:=kp hk2;have HG2:=kp hg2;clear hk2 hg2)
        go_ret
        have h1:=HE.out
        cases h1
        exact ⟨rfl,HK2.out,lE (lV (jK _ _) _) HG2.out,(HR.out.drewN _).turned HG2.out hBw hBg⟩
      · have HE:=kp ((show (if e = 0 then if most < (y : Int) then ((0 : Nat),R.fail (⟨at_,wh,why⟩ : R.St) 4) else (y,⟨at_ + u,wh,0⟩) else (0,R.fail ⟨at_,wh,why⟩ e)) = (y,⟨at_ + u,wh,0⟩) by rw [if_pos h0,if_neg hmo]).symm.trans HNum.out)
        go_enter Try.func39,Try.ntmps39
        go_wp2
        go_quiet ((go_at_call 63;exact x7 (HGet.out _ (HCut.out.drewN _))))
        generalize (if c = at_ then A else A.map (·.add at_)) = A2
        go_wp2
        go_ret
        have h1:=HE.out
        cases h1
        have hset:=HK.out.set 1 (.int .i64 ((at_ + u : Nat) : Int))
        refine ⟨rfl,?_,jN (lV (jK _ _) _),(HR.out.drewN nq).turned (jN (jK _ _)) hBw hBg⟩
        have hw0:=HW0.out
        subst hw0
        exact hset
    · have hze : ((e : Int) != 0) = true:=by simp;omega
      have HE:=kp ((show (if e = 0 then if most < (y : Int) then ((0 : Nat),R.fail (⟨at_,wh,why⟩ : R.St) 4) else (y,⟨at_ + u,wh,0⟩) else (0,R.fail ⟨at_,wh,why⟩ e)) = (0,R.fail ⟨at_,wh,why⟩ e) by rw [if_neg h0]).symm.trans HNum.out)
      go_enter Try.func39,Try.ntmps39
      go_wp2
      go_quiet ((go_at_call 63;exact x7 (HGet.out _ (HCut.out.drewN _))))
      generalize (if c = at_ then A else A.map (·.add at_)) = A2
      go_wp2_with (go_at_call 40;go_must (refine (vJ g A n c ⟨at_,wh,why⟩ e _ rfl _ (HRd.out _)).mono ?_);rintro e2 w2 ⟨rfl,hk2,hg2⟩;have HK2:=kp hk2;have HG2:=kp hg2;clear hk2 hg2)
      go_ret
      have h1:=HE.out
      cases h1
      exact ⟨rfl,HK2.out,lE (lV (jK _ _) _) HG2.out,(HR.out.drewN _).turned HG2.out hBw hBg⟩
  · have hz : ((s.why : Int) != 0) = true:=by simp;omega
    have HE : Kept ((0,s) = (x,s')):=kp <| by rw [← HX.out,R.num_why h]
    clear h
    go_enter Try.func39,Try.ntmps39
    go_wp2
    go_ret
    have h1:=HE.out
    cases h1
    exact ⟨rfl,HK.out,jK _ _,HR.out⟩
set_option maxRecDepth 100000 in
set_option maxHeartbeats 1600000 in
theorem rd_raw (g B : Nat) (A : Option Addr) (n c : Nat) (bs : List Nat) (s : R.St) (hs : R.Ok bs s) (m : Int) (hm64 : -9223372036854775808 ≤ m ∧ m ≤ 9223372036854775807) (out : List Nat) (s' : R.St) (hx : R.raw bs s m = (out,s')) (w : World) (hk : Rd w g A n c s)
    (hr : Row byteV w B A n bs) (hn : n ≤ 1000000) (hBg : B ≤ g) (hBw : B ≤ w.heap.size) :
    Calls Try.prog 38 #[.pointer (some ⟨g,0,none⟩),.int .i64 m] w fun r w' => ∃ v,r = .returned v ∧ Own w' w.heap.size 5 v (out.map byteV) ∧ Rd w' g A n c s' ∧ w.grownBy w' (some g) ∧ Row byteV w' B A n bs:=by
  obtain ⟨hc0,hc1,hc2,hc3,hf1,hf2,hf3⟩:=hk.cells
  obtain ⟨hm1,hm2⟩:=hm64
  have HK:=kp hk;have HR:=kp hr
  have hlen:=hr.len
  have hat:=hs.1
  have hgs:=hk.lt
  have HX:=kp hx
  clear hk hr hs hx
  obtain ⟨at_,wh,why⟩:=s
  simp only at *
  have hatn : at_ ≤ n:=by omega
  have HRd : Kept (∀ k,Rd (w.drewN k) g A n c ⟨at_,wh,why⟩):=kp fun k => HK.out
  by_cases h : why = 0
  · have hz : ((why : Int) != 0) = false:=by simp;omega
    have HW0:=kp h
    by_cases hneg : m < 0
    · have HE : Kept (([],R.fail ⟨at_,wh,why⟩ 1) = (out,s')):=kp <| by rw [← HX.out];unfold R.raw;rw [if_pos h,if_pos hneg]
      clear h
      go_enter Try.func38,Try.ntmps38
      go_wp2_with (go_at_call 40;go_must (refine (vJ g A n c ⟨at_,wh,why⟩ 1 _ rfl _ HK.out).mono ?_);rintro e2 w2 ⟨rfl,hk2,hg2⟩;have HK2:=kp hk2;have HG2:=kp hg2;clear hk2 hg2)
      go_ret
      have h1:=HE.out
      cases h1
      exact ⟨_,rfl,Own.nil _ _ _,HK2.out,HG2.out,HR.out.turned HG2.out hBw hBg⟩
    · obtain ⟨k,rfl⟩ : ∃ k : Nat,m = (k : Int):=⟨m.toNat,by omega⟩
      by_cases hlong : n - at_ < k
      · have HE : Kept (([],R.fail ⟨at_,wh,why⟩ 2) = (out,s')):=kp <| by rw [← HX.out];unfold R.raw;rw [if_pos h,if_neg hneg,if_pos (by show (bs.length : Int) - (at_ : Int) < (k : Int);omega)]
        have hgt : (n : Int) - (at_ : Int) < (k : Int):=by omega
        clear h hneg
        go_enter Try.func38,Try.ntmps38
        go_wp2
        go_quiet (fail)
        go_wp2_with (go_at_call 40;go_must (refine (vJ g A n c ⟨at_,wh,why⟩ 2 _ rfl _ (HRd.out _)).mono ?_);rintro e2 w2 ⟨rfl,hk2,hg2⟩;have HK2:=kp hk2;have HG2:=kp hg2;clear hk2 hg2)
        go_ret
        have h1:=HE.out
        cases h1
        exact ⟨_,rfl,Own.nil _ _ _,HK2.out,lE (lV (jK _ _) _) HG2.out,(HR.out.drewN _).turned HG2.out hBw hBg⟩
      · have HE : Kept (((bs.drop at_).take k,⟨at_ + k,wh,0⟩) = (out,s')):=kp <| by rw [← HX.out];unfold R.raw;rw [if_pos h,if_neg hneg,if_neg (by show ¬ (bs.length : Int) - (at_ : Int) < (k : Int);omega)];rfl
        have hle : (k : Int) ≤ (n : Int) - (at_ : Int):=by omega
        have hak : at_ + k ≤ n:=by omega
        clear h hneg hlong
        go_enter Try.func38,Try.ntmps38
        go_wp2
        go_quiet (fail)
        go_wp2
        go_loopw [5,6] (fun v5 v6 wr => ∃ i : Nat,i ≤ k ∧ v6 = .int .i64 i ∧ Own wr w.heap.size 5 v5 (((bs.drop at_).take i).map byteV) ∧ Below w.heap.size w wr) (fun _ v6 _ => k - (intOf v6).toNat)
        case atStart => exact ⟨0,by omega,rfl,Own.nil _ _ _,below_drewN (Below.refl _ _) _⟩
        case round =>
          obtain ⟨i,hi,rfl,hown,hbl⟩:=hrel
          have hB:=hbl.size
          have HOwn:=kp hown;have HBL:=kp hbl
          have HRd2 : Kept (Blk wr g 86 (rdC A n c ⟨at_,wh,why⟩)):=kp (HK.out.below hbl hgs)
          clear hown hbl
          by_cases hlt : i < k
          · obtain ⟨ad,x,rfl,hab,hx,hcell⟩:=HR.out.get (k:=at_ + i) (by omega)
            rw [JO] at hcell
            have hln : ((bs.drop at_).take i).length ≤ 1000000:=by rw [List.length_take];omega
            have HN : Kept ((bs.drop at_).take (i + 1) = (bs.drop at_).take i ++ [x]):=kp <| by rw [List.take_add_one,List.getElem?_drop,hx];rfl
            have habw : ad.block < wr.heap.size:=by omega
            have HCx : Kept (wr.cell? (ad.add (at_ + i)) = some (.int .u8 (x : Int))):=kp <| (HBL.out.cell (by rw [add_block];omega)).trans hcell
            generalize (bs.drop at_).take i = l at *
            clear hx hcell
            have HRd:=HRd2
            clear hc0 hc1 hc2 hc3 hf1 hf2 hf3
            go_wp2
            apply jH 14 (.is _ :: .is _ :: .is _ :: .is _ :: .is _ :: .is _ :: .is _ :: .is _ :: .is _ :: .is _ :: .is _ :: .is _ :: .is _ :: .vals [Value.int .u8 (x : Int)] :: [])
              [[],[],[(1,36)],[(2,37)],[(3,38)],[],[(5,40)],[(6,41)],[(7,42)],[],[(8,43),(9,44)],[(4,39),(10,45)],[(11,46)],[(12,47)],[(0,35),(13,48)],[(14,49)]]
              [(0,35),(1,36),(2,37),(3,38),(4,39),(5,40),(6,41),(7,42),(8,43),(9,44),(10,45),(11,46),(12,47),(13,48)] (by kernel_rfl) (by kernel_rfl) (by kernel_rfl) (by kernel_rfl) (by kernel_rfl)
            case hob =>
              refine ⟨?o0,?o1,?o2,?o3,?o4,?o5,?o6,?o7,?o8,?o9,?o10,?o11,?o12,?o13,trivial⟩
              case o0 => intro W hW;change wpList _ _ _ _ _ _;go_wp2;exact j0 rfl rfl rfl
              case o1 => intro W hW;change wpList _ _ _ _ _ _;go_wp2;exact j0 rfl rfl rfl
              case o2 => intro W hW;rintro _ rfl;change wpList _ _ _ _ _ _;go_wp2;exact j0 rfl rfl rfl
              case o3 => intro W hW;rintro _ rfl;change wpList _ _ _ _ _ _;go_wp2;exact j0 rfl rfl rfl
              case o4 =>
                intro W hW;rintro _ rfl;change wpList _ _ _ _ _ _
                have hc : W.cell? ⟨g,0,none⟩ = some (.slice (some ad) n c):=(HRd.out.below hW HRd.out.lt).cell 0
                go_wp2;exact j0 rfl rfl rfl
              case o5 => intro W hW;change wpList _ _ _ _ _ _;go_wp2;exact j0 rfl rfl rfl
              case o6 => intro W hW;rintro _ rfl;change wpList _ _ _ _ _ _;go_wp2;exact j0 rfl rfl rfl
              case o7 => intro W hW;rintro _ rfl;change wpList _ _ _ _ _ _;go_wp2;exact j0 rfl rfl rfl
              case o8 =>
                intro W hW;rintro _ rfl;change wpList _ _ _ _ _ _
                have hc : W.cell? ⟨g,1,none⟩ = some (.int .i64 (at_ : Int)):=(HRd.out.below hW HRd.out.lt).cell 1
                go_wp2;exact j0 rfl rfl rfl
              case o9 => intro W hW;change wpList _ _ _ _ _ _;go_wp2;exact j0 rfl rfl rfl
              case o10 => intro W hW;rintro _ rfl;rintro _ rfl;change wpList _ _ _ _ _ _;go_wp2;exact j0 rfl rfl rfl
              case o11 => intro W hW;rintro _ rfl;rintro _ rfl;change wpList _ _ _ _ _ _;go_wp2;exact j0 rfl rfl rfl
              case o12 =>
                intro W hW;rintro _ rfl;change wpList _ _ _ _ _ _
                have hcw : W.cell? (ad.add (at_ + i)) = some (.int .u8 (x : Int)):=(hW.cell (by rw [add_block];exact habw)).trans HCx.out
                go_wp2;exact j0 rfl rfl rfl
              case o13 =>
                intro W hW;rintro _ rfl;change wpList _ _ _ _ _ _
                go_wp2
                exact jG rfl rfl rfl ((Below.refl _ _).alloc (Nat.le_refl _) _) ⟨_,_,rfl,Row.made (fun u => u) W [_] _ rfl _⟩
            case hend =>
              intro W hW;rintro _ rfl;rintro _ rfl;rintro _ rfl;rintro _ rfl;rintro _ rfl;rintro _ rfl;rintro _ rfl;rintro _ rfl;rintro _ rfl;rintro _ rfl;rintro _ rfl;rintro _ rfl;rintro _ rfl;rintro _ ⟨A13,c13,rfl,hr13⟩
              simp only [given,jJ,List.set,List.drop]
              have HOW:=kp (HOwn.out.below hW (Nat.le_refl _))
              have HVR:=kp hr13
              clear hr13
              have hBW : w.heap.size ≤ W.heap.size:=Nat.le_trans hB hW.size
              have HBW:=kp (HBL.out.trans (hW.mono hB))
              go_wp2_with (at_builtin;go_must (refine lX rfl (.tmp 35) (.tmp 48) 26 rfl w.heap.size 5 _ _ Try.underlying26 lG rfl _ _ _ rfl HOW.out A13 _ c13 _ _ rfl HVR.out (by intro u hu;rw [List.mem_singleton] at hu;subst hu;rfl) (by simp [maxLen];omega) (by simp;omega) hBW ?_);intro v8 w8 hown8 hg8;have HO8:=kp hown8;clear hown8;have HG8:=kp hg8;clear hg8)
              go_roundw
              case rel => exact ⟨i + 1,by omega,by go_num,by rw [HN.out,List.map_append];exact HO8.out,HG8.out.below HBW.out HOW.out hBW⟩
              case measure => simp [intOf];omega
          · have hik : k = i:=by omega
            subst hik
            have hm9 : n ≤ 1000000:=hn
            obtain ⟨_,hd1,_,_,hg1,_,_⟩:=(show Rd wr g A n c ⟨at_,wh,why⟩ from HRd2.out).cells
            simp only at hd1
            clear hc0 hc1 hc2 hc3 hf1 hf2 hf3 hlt
            go_wp2
            go_ret
            have h1:=HE.out
            cases h1
            have hset:=HRd2.out.set 1 (.int .i64 ((at_ + k : Nat) : Int))
            have hw0:=HW0.out
            subst hw0
            refine ⟨_,rfl,HOwn.out.far (jN (g:=g) (jK _ _)) ?_,hset,jN (jT HBL.out _),(HR.out.below (HBL.out.mono hBw)).turned (jN (jK _ _)) (by omega) hBg⟩
            rcases hob : Value.ownBlock _ with _ | b0
            · exact .inl rfl
            · refine .inr ?_
              have:=(HOwn.out.block b0 hob).1
              intro e
              cases e
              omega
  · have hz : ((why : Int) != 0) = true:=by simp;omega
    have HE : Kept (([],⟨at_,wh,why⟩) = (out,s')):=kp <| by rw [← HX.out];unfold R.raw;rw [if_neg h]
    clear h
    go_enter Try.func38,Try.ntmps38
    go_wp2
    go_ret
    have h1:=HE.out
    cases h1
    exact ⟨_,rfl,Own.nil _ _ _,HK.out,jK _ _,HR.out⟩
def Wt.Alike (x y : Wt) : Prop:=x.a = y.a ∧ x.b = y.b ∧ x.g = y.g ∧ x.z = y.z
set_option maxRecDepth 100000 in
set_option maxHeartbeats 3200000 in
theorem rw_same (B : Nat) (x y : Wt) (w : World) (hx : x.Ok w B) (hy : y.Ok w B) (hn : x.len ≤ 5000) (hB : B ≤ w.heap.size) (b : Bool) (hb : b = true ↔ x.Alike y) :
    Calls Try.prog 16 #[wtA x,wtA y] w fun e w' => e = .returned (.bool b) ∧ Below w.heap.size w w':=by
  have HX:=kp hx;have HY:=kp hy;have HLx:=kp hx.len_;have HLy:=kp hy.len_;have HBb:=kp hb
  clear hx hy hb
  rw [l6,l6]
  by_cases qa : x.a = y.a
  rotate_left
  · have HF : Kept (b = false):=kp (by
      cases b with
      | false => rfl
      | true => exact absurd ((HBb.out.1 rfl).1) qa)
    rw [HF.out]
    have nqa : (x.a != y.a) = true:=by rw [bne_iff_ne];exact qa
    clear qa
    go_enter Try.func16,Try.ntmps16
    go_wp2_with (first
      | ((with_reducible refine j6 rfl 24 (.tmp 0) rfl (wtC x) rfl ?_);intro g1 w1 hg1 hk1 hw1;have HK1:=kp hk1;have HW1:=kp hw1;have hs1:=hw1.size;have hl1:=hk1.lt;clear hg1 hk1 hw1)
      | ((with_reducible refine j6 rfl 24 (.tmp 1) rfl (wtC y) rfl ?_);intro g2 w2 hg2 hk2 hw2;have HY2:=kp hk2;have HX2:=kp (HK1.out.below hw2 hl1);have HW2:=kp (HW1.out.trans (hw2.mono hs1));obtain ⟨hc0,hc1,hc2,hc3⟩:=jS HX2.out;obtain ⟨hd0,hd1,hd2,hd3⟩:=jS HY2.out;clear hg2 hk2 hw2))
    go_ret
    exact ⟨rfl,HW2.out⟩
  have eqa : (x.a != y.a) = false:=by rw [bne_eq_false_iff_eq];exact qa
  by_cases qb : x.b = y.b
  rotate_left
  · have HF : Kept (b = false):=kp (by
      cases b with
      | false => rfl
      | true => exact absurd ((HBb.out.1 rfl).2.1) qb)
    rw [HF.out]
    have nqb : (x.b != y.b) = true:=by rw [bne_iff_ne];exact qb
    clear qb
    go_enter Try.func16,Try.ntmps16
    go_wp2_with (first
      | ((with_reducible refine j6 rfl 24 (.tmp 0) rfl (wtC x) rfl ?_);intro g1 w1 hg1 hk1 hw1;have HK1:=kp hk1;have HW1:=kp hw1;have hs1:=hw1.size;have hl1:=hk1.lt;clear hg1 hk1 hw1)
      | ((with_reducible refine j6 rfl 24 (.tmp 1) rfl (wtC y) rfl ?_);intro g2 w2 hg2 hk2 hw2;have HY2:=kp hk2;have HX2:=kp (HK1.out.below hw2 hl1);have HW2:=kp (HW1.out.trans (hw2.mono hs1));obtain ⟨hc0,hc1,hc2,hc3⟩:=jS HX2.out;obtain ⟨hd0,hd1,hd2,hd3⟩:=jS HY2.out;clear hg2 hk2 hw2))
    go_ret
    exact ⟨rfl,HW2.out⟩
  have eqb : (x.b != y.b) = false:=by rw [bne_eq_false_iff_eq];exact qb
  by_cases qg : x.g = y.g
  rotate_left
  · have HF : Kept (b = false):=kp (by
      cases b with
      | false => rfl
      | true => exact absurd ((HBb.out.1 rfl).2.2.1) qg)
    rw [HF.out]
    have nqg : (x.g != y.g) = true:=by rw [bne_iff_ne];exact qg
    clear qg
    go_enter Try.func16,Try.ntmps16
    go_wp2_with (first
      | ((with_reducible refine j6 rfl 24 (.tmp 0) rfl (wtC x) rfl ?_);intro g1 w1 hg1 hk1 hw1;have HK1:=kp hk1;have HW1:=kp hw1;have hs1:=hw1.size;have hl1:=hk1.lt;clear hg1 hk1 hw1)
      | ((with_reducible refine j6 rfl 24 (.tmp 1) rfl (wtC y) rfl ?_);intro g2 w2 hg2 hk2 hw2;have HY2:=kp hk2;have HX2:=kp (HK1.out.below hw2 hl1);have HW2:=kp (HW1.out.trans (hw2.mono hs1));obtain ⟨hc0,hc1,hc2,hc3⟩:=jS HX2.out;obtain ⟨hd0,hd1,hd2,hd3⟩:=jS HY2.out;clear hg2 hk2 hw2))
    go_ret
    exact ⟨rfl,HW2.out⟩
  have eqg : (x.g != y.g) = false:=by rw [bne_eq_false_iff_eq];exact qg
  by_cases ql : x.len = y.len
  rotate_left
  · have HF : Kept (b = false):=kp (by
      cases b with
      | false => rfl
      | true => exact absurd (by rw [← HLx.out,← HLy.out,(HBb.out.1 rfl).2.2.2]) ql)
    rw [HF.out]
    have nql : (x.len != y.len) = true:=by rw [bne_iff_ne];exact ql
    clear ql
    go_enter Try.func16,Try.ntmps16
    go_wp2_with (first
      | ((with_reducible refine j6 rfl 24 (.tmp 0) rfl (wtC x) rfl ?_);intro g1 w1 hg1 hk1 hw1;have HK1:=kp hk1;have HW1:=kp hw1;have hs1:=hw1.size;have hl1:=hk1.lt;clear hg1 hk1 hw1)
      | ((with_reducible refine j6 rfl 24 (.tmp 1) rfl (wtC y) rfl ?_);intro g2 w2 hg2 hk2 hw2;have HY2:=kp hk2;have HX2:=kp (HK1.out.below hw2 hl1);have HW2:=kp (HW1.out.trans (hw2.mono hs1));obtain ⟨hc0,hc1,hc2,hc3⟩:=jS HX2.out;obtain ⟨hd0,hd1,hd2,hd3⟩:=jS HY2.out;clear hg2 hk2 hw2))
    go_ret
    exact ⟨rfl,HW2.out⟩
  have eql : (x.len != y.len) = false:=by rw [bne_eq_false_iff_eq];exact ql
  have HNo : Kept (x.z ≠ y.z → b = false):=kp (fun h => by
    cases b with
    | false => rfl
    | true => exact absurd (HBb.out.1 rfl).2.2.2 h)
  have HYs : Kept (x.z = y.z → b = true):=kp (fun h => HBb.out.2 ⟨qa,qb,qg,h⟩)
  obtain ⟨n,hn0⟩ : ∃ n,x.len = n:=⟨_,rfl⟩
  have hn1 : y.len = n:=by rw [← ql];exact hn0
  have HLx' : Kept (x.z.length = n):=kp (by rw [HLx.out];exact hn0)
  have HLy' : Kept (y.z.length = n):=kp (by rw [HLy.out];exact hn1)
  clear qa qb qg ql
  go_enter Try.func16,Try.ntmps16
  go_wp2_with (first
    | ((with_reducible refine j6 rfl 24 (.tmp 0) rfl (wtC x) rfl ?_);intro g1 w1 hg1 hk1 hw1;have HK1:=kp hk1;have HW1:=kp hw1;have hs1:=hw1.size;have hl1:=hk1.lt;clear hg1 hk1 hw1)
    | ((with_reducible refine j6 rfl 24 (.tmp 1) rfl (wtC y) rfl ?_);intro g2 w2 hg2 hk2 hw2;have HY2:=kp hk2;have HX2:=kp (HK1.out.below hw2 hl1);have HW2:=kp (HW1.out.trans (hw2.mono hs1));obtain ⟨hc0,hc1,hc2,hc3⟩:=jS HX2.out;obtain ⟨hd0,hd1,hd2,hd3⟩:=jS HY2.out;rw [hn0] at hc0;rw [hn1] at hd0;clear hg2 hk2 hw2))
  have HPx : Kept (∀ W,Below w.heap.size w W → Picks W B x.A n x.z):=kp (fun W hW => by have:=(HX.out.below (hW.mono hB)).picks;rw [hn0] at this;exact this)
  have HPy : Kept (∀ W,Below w.heap.size w W → Picks W B y.A n y.z):=kp (fun W hW => by have:=(HY.out.below (hW.mono hB)).picks;rw [hn1] at this;exact this)
  rw [hn0] at hn
  have HCx : Kept (∀ W,Blk W g1 24 (wtC x) → W.cell? ⟨g1,0,none⟩ = some (.slice x.A n x.cap)):=kp (fun W hW => by have:=hW.cell 0;rw [← hn0];exact this)
  have HCy : Kept (∀ W,Blk W g2 24 (wtC y) → W.cell? ⟨g2,0,none⟩ = some (.slice y.A n y.cap)):=kp (fun W hW => by have:=hW.cell 0;rw [← hn1];exact this)
  clear hn0 hn1
  go_loopw [5] (fun v5 wr => ∃ i : Nat,i ≤ n ∧ v5 = .int .i64 i ∧ (∀ (j : Nat),j < i → x.z[j]? = y.z[j]?) ∧ Blk wr g1 24 (wtC x) ∧ Blk wr g2 24 (wtC y) ∧ Below w.heap.size w wr) (fun v5 _ => n - (intOf v5).toNat)
  case atStart => exact ⟨0,by omega,rfl,(fun _ h => by omega),HX2.out,HY2.out,HW2.out⟩
  case round =>
    clear HX2 HY2 HW2 hc0 hc1 hc2 hc3 hd0 hd1 hd2 hd3
    obtain ⟨i,hi,rfl,hbef,hkx,hky,hbw⟩:=hrel
    have HBef:=kp hbef;have HKx:=kp hkx;have HKy:=kp hky;have HBw:=kp hbw
    have HPr:=kp (HPx.out wr hbw);have HQr:=kp (HPy.out wr hbw)
    have hc0:=HCx.out wr hkx
    have hd0:=HCy.out wr hky
    clear hbef hkx hky hbw
    by_cases hlt : i < n
    · obtain ⟨ad,u,hA,_,hu,h0,hc⟩:=HPr.out.1.field hlt
      obtain ⟨ad2,v,hA2,_,hv,g0,gc⟩:=HQr.out.1.field hlt
      have HU:=kp hu;have HV:=kp hv
      have c0:=h0 (by omega);have c1:=hc 1 (by omega) (by omega)
      have d0:=g0 (by omega);have d1:=gc 1 (by omega) (by omega)
      rw [hA] at hc0
      rw [hA2] at hd0
      clear h0 hc g0 gc hu hv hA hA2
      obtain ⟨xw,xb⟩:=u
      obtain ⟨yw,yb⟩:=v
      replace c0 : wr.cell? (ad.add (i * 2)) = some (.int .i64 xw):=c0
      replace c1 : wr.cell? ⟨(ad.add (i * 2)).block,(ad.add (i * 2)).off + 1,none⟩ = some (.bool xb):=c1
      replace d0 : wr.cell? (ad2.add (i * 2)) = some (.int .i64 yw):=d0
      replace d1 : wr.cell? ⟨(ad2.add (i * 2)).block,(ad2.add (i * 2)).off + 1,none⟩ = some (.bool yb):=d1
      by_cases e1 : xw = yw
      · by_cases e2 : xb = yb
        · subst e1
          subst e2
          have h1 : (xw == xw) = true:=by rw [beq_iff_eq]
          have h2 : (xb == xb) = true:=by rw [beq_iff_eq]
          go_wp2
          go_quiet (fail)
          go_wp2
          go_roundw
          case rel =>
            refine ⟨i + 1,by omega,by go_num,fun j hj => ?_,HKx.out.drewN _,HKy.out.drewN _,below_drewN HBw.out _⟩
            by_cases e : j = i
            · subst e
              rw [HU.out,HV.out]
            · exact HBef.out j (by omega)
          case measure => simp [intOf];omega
        · have HF : Kept (b = false):=kp (HNo.out (fun e => by
            have h5:=HU.out
            rw [e,HV.out] at h5
            injection h5 with h5
            injection h5 with h6 h7
            exact absurd h7.symm e2))
          have h1 : (xw == yw) = true:=by rw [beq_iff_eq];exact e1
          have h2 : (xb == yb) = false:=by rw [beq_eq_false_iff_ne];exact e2
          clear e1 e2
          go_wp2
          go_quiet (fail)
          go_wp2
          go_ret
          exact ⟨jQ HF.out.symm,below_drewN HBw.out _⟩
      · have HF : Kept (b = false):=kp (HNo.out (fun e => by
          have h5:=HU.out
          rw [e,HV.out] at h5
          injection h5 with h5
          injection h5 with h6 h7
          exact absurd h6.symm e1))
        have h1 : (xw == yw) = false:=by rw [beq_eq_false_iff_ne];exact e1
        clear e1
        go_wp2
        go_quiet (fail)
        go_wp2
        go_ret
        exact ⟨jQ HF.out.symm,below_drewN HBw.out _⟩
    · have hge : n ≤ i:=by omega
      have HT : Kept (b = true):=kp (HYs.out (by
        apply List.ext_getElem?
        intro j
        rcases Nat.lt_or_ge j n with hj | hj
        · exact HBef.out j (by omega)
        · rw [List.getElem?_eq_none (by rw [HLx'.out];exact hj),List.getElem?_eq_none (by rw [HLy'.out];exact hj)]))
      clear hlt
      go_wp2
      go_ret
      exact ⟨jQ HT.out.symm,HBw.out⟩
end Go.Proofs.Ytcbfghcdbmlneaa
