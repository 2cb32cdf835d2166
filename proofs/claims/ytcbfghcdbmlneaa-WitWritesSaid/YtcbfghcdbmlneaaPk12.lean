/- FullC, WitR2, WWitWrites. -/
import Derived.Test.YtcbfghcdbmlneaaPk1
import Derived.Maps.AppendAt
import Derived.Test.YtcbfghcdbmlneaaPk5
import Derived.Test.YtcbfghcdbmlneaaPk3
import Derived.Lib.SlBytesConst
import Derived.Test.YtcbfghcdbmlneaaPk10
import Derived.Test.YtcbfghcdbmlneaaWitR1
namespace Go.Proofs.Ytcbfghcdbmlneaa
open Go.RowKit
theorem vO {P : Program} {ops : Array Oper} {rest : List Oper} {o : Oper} {a : Act} {Q : Exit → Act → World → Prop} (hgd : o.guard = none) (s x : Operand) (t : TypeId)
    (ho : o.op = .call { callee:=.builtin .append,args:=#[s,x],argTypes:=#[t,t] })
    (B : Nat) (e : TypeId) (z : Value) (bytes : Nat) (ht : P.underlying t = some (.slice e)) (hi : (P.info? e).map (fun i => (i.zero,i.size,i.bytes)) = some (some z,1,bytes)) (hzs : z.cells.size = 1)
    (w : World) (ad0 : Addr) (n C : Nat) (olds : List Value) (hs : a.eval s = .slice (some ad0) n n) (hold : Row (fun u => u) w C (some ad0) n olds)
    (A : Option Addr) (m c C' : Nat) (news : List Value) (hx : a.eval x = .slice A m c) (hr : Row (fun u => u) w C' A m news) (hm : 0 < m)
    (h63 : n + m ≤ maxLen) (hbytes : (n + m) * bytes ≤ 140737488355328) (hB : B ≤ w.heap.size)
    (h : ∀ v' w',Own w' B e v' (olds ++ news) → Below w.heap.size w w' → wpList P ops Q rest (a.put o.dst v') w') : wpList P ops Q (o :: rest) a w:=by
  obtain ⟨i,hi0,hz,hsize,hby⟩:=info_parts hi
  obtain ⟨ad,rfl,_,hc⟩:=hr.cells hm
  have hnews : ∀ j u,news[j]? = some u → w.cell? (ad.add j) = some u:=fun j u hu => by
    have hj : j < m:=by have:=(List.getElem?_eq_some_iff.1 hu).1;rw [hr.len] at this;exact this
    rw [hc j hj,hu];rfl
  have holds : ∀ j u,olds[j]? = some u → w.cell? (ad0.add j) = some u:=fun j u hu => by
    have hj : j < n:=by have:=(List.getElem?_eq_some_iff.1 hu).1;rw [hold.len] at this;exact this
    obtain ⟨ad1,e1,_,hc1⟩:=hold.cells (by omega)
    cases e1
    rw [hc1 j hj,hu];rfl
  have hl : news.length = m * i.size:=by rw [hr.len,hsize,Nat.mul_one]
  have ho2 : olds.length = n * i.size:=by rw [hold.len,hsize,Nat.mul_one]
  have hlen : (olds ++ news).length = (n + m) * i.size:=by rw [List.length_append,ho2,hl,Nat.add_mul]
  have hsmall : n + m ≤ 9223372036854775807:=by simp only [maxLen] at h63;omega
  have hrun:=run_append_grow (P:=P) w t o.type e i z ht hi0 hz ad0 n n olds ho2 holds ad m c news hl hnews (by omega) (by omega) (growslice_fits (by omega) (by rw [hby];exact hbytes))
  have hge:=grownCap_ge w (n + m) n e
  have hcm : grownCap w (n + m) n e ≤ maxLen:=grownCap_le_maxLen w (n + m) n e h63
  refine wpList_plain hgd fun K hK => ?_
  unfold Oper.wp execOp
  simp only [ho,resolve,invoke,builtin,Sem.run_bind,Sem.run_pure,Result.andThen_ok,List.map_toArray,List.map_cons,List.map_nil,hs,hx,hrun]
  have hlen' : (olds ++ news).length = n + m:=by rw [hlen,hsize,Nat.mul_one]
  refine hK _ _ (h _ _ ?_ ⟨rfl,rfl,rfl,by simp,fun k hk => Below.heap_alloc w.drew _ k hk⟩)
  unfold Own
  rw [hlen']
  refine ⟨by rw [hlen',Nat.mul_one],.inr ⟨w.heap.size,grownCap w (n + m) n e,_,rfl,hB,heap_alloc_new w.drew _,hge,hcm,?_,?_⟩⟩
  · simp only [Array.size_append,List.size_toArray,size_zeroCells,hzs,ho2,hl,hsize,Nat.mul_one]
    omega
  · rw [Nat.mul_one]
    simp only [Array.toList_append,List.append_assoc]
    rw [← List.append_assoc,← hlen']
    exact List.take_left
theorem rowm13 {α : Type} (f : α → Value) (w : World) (l : List α) (cs : Array Value) (hcs : cs.toList = l.map f) (e : TypeId) (fr : Nat × Nat) : Row f (w.alloc (.cells cs e fr)) (w.alloc (.cells cs e fr)).heap.size (some ⟨w.heap.size,0,none⟩) l.length l :=
  ⟨rfl,fun _ => ⟨_,rfl,by simp,fun k _ => by rw [yW,cell_of_row _ w.heap.size k cs e fr (heap_alloc_new w _),← Array.getElem?_toList,hcs,List.getElem?_map]⟩⟩
theorem take_pb {z : List (Int × Bool)} {i : Nat} {x : Int × Bool} {hd : List Nat} (hx : z[i]? = some x) : (hd ++ (z.take i).map M.pb).map byteV ++ [byteV (M.pb x)] = (hd ++ (z.take (i + 1)).map M.pb).map byteV:=by
  rw [List.take_add_one,hx];simp
set_option maxRecDepth 100000 in
set_option maxHeartbeats 3200000 in
theorem rw_write (B : Nat) (x : Wt) (w : World) (hx : x.Ok w B) (hB : B ≤ w.heap.size) (hc : x.check = 0) :
    Calls Try.prog 13 #[wtA x] w fun e w' => ∃ v,e = .returned v ∧ Own w' w.heap.size 5 v (x.bytes.map byteV) ∧ Below w.heap.size w w':=by
  obtain ⟨hz4,hzo,hno⟩:=T.check_ok hc
  have hn : x.len ≤ 4096:=by rw [← hx.len_];exact hz4
  have HX:=kp hx;have HLn:=kp hx.len_;have HZo:=kp hzo
  obtain ⟨k1,k2,k3,k4,_,k5,k6⟩:=T.okN_iff.1 hno
  obtain ⟨mk,hmk⟩ : ∃ mk,T.mark = mk:=⟨_,rfl⟩
  have HMk:=kp hmk
  have hmk4 : mk.length = 4:=by rw [← hmk];rfl
  obtain ⟨hd,hhd⟩ : ∃ hd,mk ++ V.put x.len = hd:=⟨_,rfl⟩
  have HHd:=kp hhd
  have hhl : hd.length ≤ 9:=by rw [← hhd,List.length_append,hmk4,V.len_put _ (by omega)];have:=V.size_le x.len;omega
  have HAll : Kept ((hd ++ x.z.map M.pb) ++ T.three x.a x.b x.g = x.bytes):=kp (by
    unfold Wt.bytes T.bytes
    rw [HLn.out,hmk,← hhd]
    simp only [List.append_assoc])
  have HThree : Kept ((T.three x.a x.b x.g).map byteV = [.int .u8 x.a,.int .u8 x.b,.int .u8 x.g]):=kp (by
    unfold T.three byteV
    simp only [List.map_cons,List.map_nil]
    rw [Int.toNat_of_nonneg k1,Int.toNat_of_nonneg k3,Int.toNat_of_nonneg k5])
  clear hx hc hmk hhd hzo hno hz4
  rw [l6]
  go_enter Try.func13,Try.ntmps13
  go_wp2_with (first
    | ((with_reducible refine j6 rfl 24 (.tmp 0) rfl (wtC x) rfl ?_);intro g1 w1 hg1 hk1 hw1
       have hcv:=Go.Lib.run_convert_bytes_const (P:=Try.prog) w1 26 5 #[.int .u8 97,.int .u8 108,.int .u8 119,.int .u8 49] 4 4 Try.underlying26 Try.underlying5
       have HK1:=kp hk1;have HW1:=kp hw1;have hs1:=hw1.size;have hl1:=hk1.lt
       obtain ⟨hc0,_,_,_⟩:=jS (hk1.below (w':=w1.alloc (.cells #[.int .u8 97,.int .u8 108,.int .u8 119,.int .u8 49] 5 (4,5))) ((Below.refl _ _).alloc (Nat.le_refl _) _) hk1.lt)
       clear hk1 hw1)
    | (go_at_call 31;fail))
  obtain ⟨w2,e2,hr2,hb2⟩ : ∃ w2,w1.alloc (.cells #[.int .u8 97,.int .u8 108,.int .u8 119,.int .u8 49] 5 (4,5)) = w2 ∧ Row byteV w2 w2.heap.size (some ⟨w1.heap.size,0,none⟩) 4 mk ∧ Below w1.heap.size w1 w2:=⟨_,rfl,by rw [← HMk.out];exact rowm13 byteV w1 T.mark #[.int .u8 97,.int .u8 108,.int .u8 119,.int .u8 49] rfl 5 (4,5),(Below.refl _ _).alloc (Nat.le_refl _) _⟩
  rw [e2] at hc0 ⊢
  have HR2:=kp hr2;have HB2:=kp hb2;have hs12:=hb2.size
  clear hr2 hb2 e2 hcv
  refine (ref_put x.len (by omega) w2).mono ?_
  rintro e w3 ⟨v3,rfl,hown3,hb3⟩
  obtain ⟨A3,c3,hv3,_,_,hr3⟩:=hown3.bytes
  subst hv3
  have hp0 : 0 < (V.put x.len).length:=by rw [V.len_put _ (by omega)];exact V.size_pos _
  have hp5 : (V.put x.len).length ≤ 5:=by rw [V.len_put _ (by omega)];exact V.size_le _
  have HR3:=kp hr3;have HO3:=kp (HR2.out.below hb3);have HB3:=kp (HB2.out.trans (hb3.mono hs12))
  have HK3:=kp (HK1.out.below HB3.out hl1)
  have HW3:=kp (HW1.out.trans (HB3.out.mono hs1))
  have hs3:=HW3.out.size
  generalize (V.put x.len).length = np at *
  have HMv : Kept (mk.map byteV ++ (V.put x.len).map byteV = hd.map byteV):=kp (by rw [← HHd.out,List.map_append])
  clear hown3 hr3 hb3 hc0
  go_wp2_with (first
    | (at_builtin;go_must (refine vO rfl (.tmp 7) (.tmp 11) 26 rfl w1.heap.size 5 _ _ Try.underlying26 lG rfl w3 ⟨w1.heap.size,0,none⟩ 4 _ _ rfl HO3.out.vals A3 _ c3 _ _ rfl HR3.out.vals hp0 (by unfold maxLen;omega) (by omega) HB3.out.size ?_);intro v4 w4 hown4 hb4
       rw [HMv.out] at hown4
       have HO4:=kp hown4;have HK4:=kp (HK3.out.below hb4 HK3.out.lt);have HW4:=kp (HW3.out.trans (hb4.mono hs3));have hs4:=hb4.size;have hs13:=HB3.out.size
       clear hown4 hb4))
  go_loopw [3,4] (fun v3 v4 wr => ∃ i : Nat,i ≤ x.len ∧ v4 = .int .i64 i ∧ Own wr w1.heap.size 5 v3 ((hd ++ (x.z.take i).map M.pb).map byteV) ∧ Blk wr g1 24 (wtC x) ∧ Below w.heap.size w wr ∧ w1.heap.size ≤ wr.heap.size) (fun _ v4 _ => x.len - (intOf v4).toNat)
  case atStart => exact ⟨0,by omega,rfl,by simpa using HO4.out,HK4.out,HW4.out,by omega⟩
  case round =>
    clear HO4 HK4 HW4
    obtain ⟨i,hi,rfl,hown,hkr,hbw,hs1r⟩:=hrel
    have hl5 : ((hd ++ (x.z.take i).map M.pb).map byteV).length ≤ 4106:=by simp;omega
    have HOw:=kp hown;have HKr:=kp hkr;have HBw:=kp hbw;have HL5:=kp hl5;have hsz:=hbw.size
    have HPr:=kp (HX.out.below (hbw.mono hB)).picks
    obtain ⟨hd0,hd1,hd2,hd3⟩:=jS hkr
    have hlr:=hkr.lt
    clear hown hkr hbw hl5
    by_cases hlt : i < x.len
    · obtain ⟨ad,y,hA,hab,hy,h0,hc⟩:=HPr.out.1.field hlt
      have HY:=kp hy
      have c0:=h0 (by omega);have c1:=hc 1 (by omega) (by omega)
      rw [hA] at hd0
      clear h0 hc hy
      obtain ⟨yw,yb⟩:=y
      replace c0 : wr.cell? (ad.add (i * 2)) = some (.int .i64 yw):=c0
      replace c1 : wr.cell? ⟨(ad.add (i * 2)).block,(ad.add (i * 2)).off + 1,none⟩ = some (.bool yb):=c1
      obtain ⟨hlo,hhi⟩:=HZo.out _ (List.mem_of_getElem? HY.out)
      simp only at hlo hhi
      have HE:=kp (M.pb_int (x:=(yw,yb)) ⟨hlo,hhi⟩)
      have hlo' : ¬ yw < 0:=by omega
      have hhi' : ¬ 7 < yw:=by omega
      cases yb with
      | true =>
        have HV : Kept (byteV (M.pb (yw,true)) = .int .u8 (yw + 8)):=kp (by unfold byteV;rw [HE.out];simp)
        go_wp2_with (first
          | (at_builtin;go_must (refine lH rfl (.tmp 34) (.tmp 37) 26 rfl w1.heap.size 5 _ _ Try.underlying26 lG rfl wr _ ((hd ++ (x.z.take i).map M.pb).map byteV) _ rfl HOw.out _ 1 rfl rfl rfl (by have:=HL5.out;unfold maxLen;omega) (by have:=HL5.out;omega) hs1r ?_);intro v9 w5 hown5 hgr5
             have HB5:=kp (hgr5.below HBw.out (HOw.out.less hs1) hsz);have hs5:=hgr5.size
             have HK5:=kp (HKr.out.grown hgr5.1 (own_ne3 HOw.out hl1))
             rw [← HV.out,take_pb HY.out] at hown5
             have HO5:=kp hown5;clear hown5 hgr5))
        go_roundw
        case rel => exact ⟨i + 1,by omega,by go_num,by simpa using HO5.out,HK5.out,HB5.out,by omega⟩
        case measure => simp [intOf];omega
      | false =>
        have HV : Kept (byteV (M.pb (yw,false)) = .int .u8 (yw)):=kp (by unfold byteV;rw [HE.out];simp)
        go_wp2_with (first
          | (at_builtin;go_must (refine lH rfl (.tmp 34) (.tmp 37) 26 rfl w1.heap.size 5 _ _ Try.underlying26 lG rfl wr _ ((hd ++ (x.z.take i).map M.pb).map byteV) _ rfl HOw.out _ 1 rfl rfl rfl (by have:=HL5.out;unfold maxLen;omega) (by have:=HL5.out;omega) hs1r ?_);intro v9 w5 hown5 hgr5
             have HB5:=kp (hgr5.below HBw.out (HOw.out.less hs1) hsz);have hs5:=hgr5.size
             have HK5:=kp (HKr.out.grown hgr5.1 (own_ne3 HOw.out hl1))
             rw [← HV.out,take_pb HY.out] at hown5
             have HO5:=kp hown5;clear hown5 hgr5))
        go_roundw
        case rel => exact ⟨i + 1,by omega,by go_num,by simpa using HO5.out,HK5.out,HB5.out,by omega⟩
        case measure => simp [intOf];omega
    · have e : i = x.len:=by omega
      subst e
      have HT : Kept (Own wr w1.heap.size 5 _ ((hd ++ x.z.map M.pb).map byteV)):=kp (by have h:=HOw.out;rw [List.take_of_length_le (by rw [HLn.out];exact Nat.le_refl _)] at h;exact h)
      have HL6 : Kept (((hd ++ x.z.map M.pb).map byteV).length ≤ 4106):=kp (by have:=HLn.out;simp;omega)
      clear hlt HOw HL5
      have q1 : ¬ x.a < 0:=by omega
      have q2 : ¬ x.b < 0:=by omega
      have q3 : ¬ x.g < 0:=by omega
      go_wp2_with (first
        | (at_builtin;go_must (refine lX rfl (.tmp 39) (.tmp 49) 26 rfl w1.heap.size 5 _ _ Try.underlying26 lG rfl _ _ ((hd ++ x.z.map M.pb).map byteV) rfl (HT.out.below ((Below.refl _ _).alloc (Nat.le_refl _) _) (Nat.le_refl _)) _ 3 3 _ _ rfl (Row.made (fun u => u) wr [.int .u8 x.a,.int .u8 x.b,.int .u8 x.g] _ rfl _) (by intro u hu;simp only [List.mem_cons,List.not_mem_nil,or_false] at hu;rcases hu with h | h | h <;> subst h <;> rfl) (by have:=HL6.out;unfold maxLen;omega) (by have:=HL6.out;omega) (by rw [World.size_alloc];omega) ?_);intro v9 w5 hown5 hgr5
           rw [← HThree.out,← List.map_append,HAll.out] at hown5
           have HB5:=kp (hgr5.below (HBw.out.alloc hsz _) ((HT.out.below ((Below.refl _ _).alloc (Nat.le_refl _) _) (Nat.le_refl _)).less hs1) (by rw [World.size_alloc];omega))
           have HO5:=kp hown5;clear hown5 hgr5))
      go_ret
      exact ⟨_,rfl,HO5.out.less hs1,HB5.out⟩
set_option maxRecDepth 1000000 in
set_option maxHeartbeats 8000000 in
theorem walkWitWrites (x0 : Wt) (w : World) (w0 : x0.Ok w w.heap.size) :
    Calls Try.prog 3 #[wtA x0] w fun e w' => e = .returned (.bool true) ∧ Below w.heap.size w w':=by
  have HW:=kp w0
  obtain ⟨ck,hck⟩ : ∃ c,x0.check = c:=⟨_,rfl⟩
  have HCk':=kp hck
  clear w0 hck
  rw [l6]
  go_enter Try.func3,Try.ntmps3
  go_wp2_with (first
    | ((with_reducible refine j6 rfl 24 (.tmp 0) rfl (wtC x0) rfl ?_);intro g1 u1 hg1 hk1 hu1;have HX1:=kp hk1;have HU1:=kp hu1;have hs1:=hu1.size;clear hg1 hk1 hu1)
    | (go_at_call 9;fail))
  refine (lR u1).mono ?_
  rintro e u2 ⟨rfl,hb2⟩
  have HU2:=kp (HU1.out.trans (hb2.mono hs1));have hs2:=HU2.out.size
  have HX2:=kp (HX1.out.below hb2 HX1.out.lt)
  clear hb2
  obtain ⟨hd0,hd1,hd2,hd3⟩:=jS HX2.out
  by_cases hbig : 5000 < x0.len
  · go_wp2_with (go_at_call 9;fail)
    refine (lR u2).mono ?_
    rintro e uz ⟨rfl,hbz⟩
    have HUz:=kp (HU2.out.trans (hbz.mono HU2.out.size))
    clear hbz
    go_wp2
    go_ret
    exact ⟨rfl,HUz.out⟩
  have hn5 : x0.len ≤ 5000:=by omega
  clear hbig
  by_cases h0 : ck = 0
  rotate_left
  · go_wp2_with (first
      | ((with_reducible show Sl 16);go_must (refine j4 rfl 24 (.tmp 1) rfl g1 rfl _ (wtC x0) _ HX2.out Try.underlying24 rfl jD ?_))
      | (go_at_call 10;fail))
    rw [← l6]
    clear hd0 hd1 hd2 hd3
    refine (uL w.heap.size x0 u2 (HW.out.below HU2.out) hn5 hs2 ck HCk'.out h0).mono ?_
    rintro e u3 ⟨rfl,hb3⟩
    have HU3:=kp (HU2.out.trans (hb3.mono hs2));have hs3:=HU3.out.size
    have HX3:=kp (HX2.out.below hb3 HX2.out.lt)
    clear hb3
    go_wp2_with (first
      | ((with_reducible show Sl 20);go_must (refine j4 rfl 24 (.tmp 1) rfl g1 rfl _ (wtC x0) _ HX3.out Try.underlying24 rfl jD ?_))
      | (go_at_call 11;fail))
    rw [← l6]
    refine (LZ w.heap.size x0 u3 (HW.out.below HU3.out) hn5 hs3 ck HCk'.out).mono ?_
    rintro e u4 ⟨rfl,hb4⟩
    have HU4:=kp (HU3.out.trans (hb4.mono hs3));have hs4:=HU4.out.size
    have HX4:=kp (HX3.out.below hb4 HX3.out.lt)
    clear hb4
    have hb0 : ((ck : Int) != 0) = true:=by rw [bne_iff_ne];omega
    have hq : ((ck : Int) == (ck : Int)) = true:=by simp
    clear h0
    obtain ⟨hd0,hd1,hd2,hd3⟩:=jS HX4.out
    go_wp2_with (go_at_call 12;fail)
    refine (xF w.heap.size x0 u4 (HW.out.below HU4.out) hn5 hs4 ck HCk'.out).mono ?_
    rintro e u5 ⟨rfl,hb5⟩
    have HU5:=kp (HU4.out.trans (hb5.mono hs4));have hs5:=HU5.out.size
    have HX5:=kp (HX4.out.below hb5 HX4.out.lt)
    clear hb5
    go_wp2
    go_ret
    exact ⟨rfl,HU5.out⟩
  subst h0
  have HCk : Kept (x0.check = 0):=kp HCk'.out
  go_wp2_with (first
    | ((with_reducible show Sl 16);go_must (refine j4 rfl 24 (.tmp 1) rfl g1 rfl _ (wtC x0) _ HX2.out Try.underlying24 rfl jD ?_))
    | (go_at_call 10;fail))
  rw [← l6]
  clear hd0 hd1 hd2 hd3
  refine (zJ w.heap.size x0 u2 (HW.out.below HU2.out) hs2 HCk.out).mono ?_
  rintro e u4 ⟨v,rfl,hown,hb4⟩
  have HU4:=kp (HU2.out.trans (hb4.mono hs2));have HX4:=kp (HX2.out.below hb4 HX2.out.lt);have hs4:=HU4.out.size
  obtain ⟨nb,hnb⟩ : ∃ n,x0.bytes.length = n:=⟨_,rfl⟩
  obtain ⟨A4,c4,rfl,_,_,hr4⟩:=Own.readsN hown hnb
  have HR4:=kp hr4
  clear hown hr4 hb4 hnb
  go_wp2_with (first
    | ((with_reducible show Sl 20);go_must (refine j4 rfl 24 (.tmp 1) rfl g1 rfl _ (wtC x0) _ HX4.out Try.underlying24 rfl jD ?_))
    | (go_at_call 11;fail))
  rw [← l6]
  refine (LZ w.heap.size x0 u4 (HW.out.below HU4.out) hn5 hs4 0 HCk.out).mono ?_
  rintro e u5 ⟨rfl,hb5⟩
  have HU5:=kp (HU4.out.trans (hb5.mono hs4));have HX5:=kp (HX4.out.below hb5 HX4.out.lt);have hs5:=HU5.out.size;have HB45:=kp hb5
  clear hb5
  obtain ⟨str,hstr⟩ : ∃ s,strOf x0.bytes = s:=⟨_,rfl⟩
  have HStr:=kp hstr
  clear hstr
  go_wp2
  apply qM (.is (.int .i64 0) :: .is (.bool true) :: .is (.bool true) :: .is (.agg (wtC x0).toArray) :: .is (.int .i64 0) :: .is (.bool true) :: .is (.bool true) :: .is (.bool true) :: .is (.slice A4 nb c4) :: .is (.string str) :: .is (.agg (wtC x0).toArray) :: Fact.bytes x0.bytes :: .is (.string str) :: .is (.bool true) :: .is (.bool true) :: .is (.bool true) :: [])
    [[],[(0,38)],[(1,39)],[(2,40)],[(3,41),(2,40)],[(4,42),(2,40)],[(2,40),(5,43)],[(6,44)],[(7,45)],[(8,46),(7,45)],[(7,45)],[(10,48),(7,45)],[(11,49),(7,45)],[(9,47),(12,50),(7,45)],[(7,45),(13,51)],[(14,52)]]
    [(0,38),(1,39),(2,40),(3,41),(4,42),(5,43),(6,44),(7,45),(8,46),(9,47),(10,48),(11,49),(12,50),(13,51),(14,52),(15,2)] (by kernel_rfl) (by kernel_rfl)
  case hob =>
    refine ⟨?o0,?o1,?o2,?o3,?o4,?o5,?o6,?o7,?o8,?o9,?o10,?o11,?o12,?o13,?o14,?o15,trivial⟩
    case o0 => intro W hW;change wpList _ _ _ _ _ _;go_wp2;exact j0 rfl rfl rfl
    case o1 => intro W hW;rintro _ rfl;change wpList _ _ _ _ _ _;go_wp2;exact j0 rfl rfl rfl
    case o2 => intro W hW;rintro _ rfl;change wpList _ _ _ _ _ _;go_wp2;exact j0 rfl rfl rfl
    case o3 =>
      intro W hW;rintro _ rfl;change wpList _ _ _ _ _ _
      refine lO rfl 24 (.tmp 1) rfl g1 rfl _ (wtC x0) _ (HX5.out.below hW HX5.out.lt) Try.underlying24 rfl jD ?_
      go_wp2;exact j0 rfl rfl rfl
    case o4 =>
      intro W hW;rintro _ rfl;rintro _ rfl;change wpList _ _ _ _ _ _
      have hsW:=hW.size;have HWx:=kp (HW.out.below (HU5.out.trans (hW.mono hs5)))
      clear hW
      go_wp2_with fail
      rw [← l6]
      refine (xF w.heap.size x0 W HWx.out (by omega) (by omega) 0 HCk.out).mono ?_
      rintro e v6 ⟨rfl,hb6⟩
      have HB6:=kp hb6
      clear hb6
      go_wp2
      exact jG rfl rfl rfl HB6.out rfl
    case o5 => intro W hW;rintro _ rfl;rintro _ rfl;change wpList _ _ _ _ _ _;go_wp2;exact j0 rfl rfl rfl
    case o6 => intro W hW;rintro _ rfl;rintro _ rfl;change wpList _ _ _ _ _ _;go_wp2;exact j0 rfl rfl rfl
    case o7 => intro W hW;rintro _ rfl;change wpList _ _ _ _ _ _;go_wp2;exact j0 rfl rfl rfl
    case o8 => intro W hW;rintro _ rfl;change wpList _ _ _ _ _ _;go_wp2;exact j0 rfl rfl rfl
    case o9 =>
      intro W hW;rintro _ rfl;rintro _ rfl;change wpList _ _ _ _ _ _
      have hcv:=J6 (c:=c4) (HR4.out.below (HB45.out.trans (hW.mono HB45.out.size)))
      rw [HStr.out] at hcv
      clear hW
      go_wp2;exact j0 rfl rfl rfl
    case o10 =>
      intro W hW;rintro _ rfl;change wpList _ _ _ _ _ _
      refine lO rfl 24 (.tmp 1) rfl g1 rfl _ (wtC x0) _ (HX5.out.below hW HX5.out.lt) Try.underlying24 rfl jD ?_
      go_wp2;exact j0 rfl rfl rfl
    case o11 =>
      intro W hW;rintro _ rfl;rintro _ rfl;change wpList _ _ _ _ _ _
      have hsW:=hW.size;have HWx:=kp (HW.out.below (HU5.out.trans (hW.mono hs5)))
      clear hW
      go_wp2_with fail
      rw [← l6]
      refine (rw_write w.heap.size x0 W HWx.out (by omega) HCk.out).mono ?_
      rintro e v6 ⟨v,rfl,hown,hb6⟩
      obtain ⟨A6,c6,rfl,_,_,hr6⟩:=hown.bytes
      have HB6:=kp hb6;have HR6:=kp hr6
      clear hb6 hown hr6
      go_wp2
      exact jG rfl rfl rfl HB6.out ⟨A6,c6,rfl,HR6.out⟩
    case o12 =>
      intro W hW;rintro _ ⟨A6,c6,rfl,hr6⟩;rintro _ rfl;change wpList _ _ _ _ _ _
      have hcv:=J6 (c:=c6) hr6
      rw [HStr.out] at hcv
      clear hW hr6
      go_wp2;exact j0 rfl rfl rfl
    case o13 =>
      intro W hW;rintro _ rfl;rintro _ rfl;rintro _ rfl;change wpList _ _ _ _ _ _
      have hse : (str.toList == str.toList) = true:=by simp
      go_wp2;exact j0 rfl rfl rfl
    case o14 => intro W hW;rintro _ rfl;rintro _ rfl;change wpList _ _ _ _ _ _;go_wp2;exact j0 rfl rfl rfl
    case o15 => intro W hW;rintro _ rfl;change wpList _ _ _ _ _ _;go_wp2;exact j0 rfl rfl rfl
  case hend =>
    intro W hW;rintro _ rfl;rintro _ rfl;rintro _ rfl;rintro _ rfl;rintro _ rfl;rintro _ rfl;rintro _ rfl;rintro _ rfl;rintro _ rfl;rintro _ rfl;rintro _ rfl;rintro _ ⟨_,_,rfl,_⟩;rintro _ rfl;rintro _ rfl;rintro _ rfl;rintro _ rfl
    simp only [given,jJ,List.set]
    have HU6:=kp (HU5.out.trans (hW.mono hs5))
    clear hW
    go_wp2
    go_ret
    exact ⟨rfl,HU6.out⟩
end Go.Proofs.Ytcbfghcdbmlneaa
