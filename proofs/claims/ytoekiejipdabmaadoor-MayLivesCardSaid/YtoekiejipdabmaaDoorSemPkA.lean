/- The program's interpreter, walked: Step. -/
import Derived.Test.YtoekiejipdabmaaDoorPk13
import Derived.Test.YtoekiejipdabmaaDoorSemPb
import Derived.Test.YtoekiejipdabmaaDoorPk15
namespace Go.Proofs.YtoekiejipdabmaaDoor
open Go.RowKit
set_option maxRecDepth 100000 in
theorem LU {K F : Nat} (hK : K < 10) (hF : deedL[K]? = some (fn9 F)) (xs : Array Value) (W : World) : (callFunc F xs).run Tryd.prog W = .ok (.enter F xs) W:=by
  have go : ∀ (f : FuncId) (fn : Func) (c : Code),Tryd.prog.funcs[f]? = some fn → (fn.name == "runtime.NumGoroutine") = false → fn.body = some c → (callFunc f xs).run Tryd.prog W = .ok (.enter f xs) W:=fun f fn c hf hname hb => by
    have h1 : fn.name ≠ "runtime.NumGoroutine":=by simpa using hname
    simp [callFunc,hf,h1,hb]
  obtain rfl | rfl | rfl | rfl | rfl | rfl | rfl | rfl | rfl | rfl : K = 0 ∨ K = 1 ∨ K = 2 ∨ K = 3 ∨ K = 4 ∨ K = 5 ∨ K = 6 ∨ K = 7 ∨ K = 8 ∨ K = 9:=by omega
  all_goals cases hF
  all_goals first
    | exact go _ _ _ Tryd.func53 (by kernel_rfl) rfl
    | exact go _ _ _ Tryd.func54 (by kernel_rfl) rfl
    | exact go _ _ _ Tryd.func55 (by kernel_rfl) rfl
    | exact go _ _ _ Tryd.func56 (by kernel_rfl) rfl
    | exact go _ _ _ Tryd.func57 (by kernel_rfl) rfl
    | exact go _ _ _ Tryd.func58 (by kernel_rfl) rfl
    | exact go _ _ _ Tryd.func59 (by kernel_rfl) rfl
theorem sem_deed (B gN gU k : Nat) (q : Pc) (x : Nd) (way : Bool) (th : Tv) (w : World) (hst : St w B gN gU q) (hu : Blk w gU 94 (turnC gN k way x)) (hkl : k < q.len) (hth : q.tvs[k]? = some th) (hs0 : 0 < th.sv.len) (hlen16 : th.sv.len ≤ 1000) (h8 : q.len ≤ 8) (nx : Nat) (hnx : x.next = (nx : Int)) (a : Nat) (ha : x.arg = (a : Int)) (al : Nat) (hal : x.alt = (al : Int)) (ha3 : x.kind = 3 ∨ x.kind = 4 → a < 16) (hal5 : x.kind = 5 → al < 8) (h8s : th.slots.length = 8) (how : q.ow.length = 16) (K F : Nat) (hK : K < 10) (hF : deedL[K]? = some (fn9 F)) (hk : x.kind = (K : Int)) :
    Calls Tryd.prog F #[.pointer (some ⟨gU,0,none⟩)] w fun e w' => e = .returned (.tuple #[]) ∧ ∃ q',St w' B gN gU q' ∧ q'.cf = M.act q.cf k x way ∧ Below B w w':=by
  have go : (x.kind = 0 ∨ x.kind = 1 ∨ x.kind = 2 ∨ x.kind = 6) → Calls Tryd.prog 53 #[.pointer (some ⟨gU,0,none⟩)] w fun e w' => e = .returned (.tuple #[]) ∧ ∃ q',St w' B gN gU q' ∧ q'.cf = M.act q.cf k x way ∧ Below B w w':=fun h => by
    refine (xA B gN gU k q x way th w hst hu hkl hth hs0 hlen16 h8 nx hnx).mono ?_
    rintro e w1 ⟨he,hst1,_,hb1⟩
    refine ⟨he,_,hst1,?_,hb1⟩
    rw [Pc.put_cf]
    have h1 : M.th q.cf k = tvT th:=Pc.th_of hth
    unfold M.act
    rw [h1,if_neg (show ¬ x.kind = 9 by omega),if_neg (show ¬ x.kind = 3 by omega),if_neg (show ¬ x.kind = 4 by omega),if_neg (show ¬ x.kind = 5 by omega),if_neg (show ¬ x.kind = 7 by omega),if_neg (show ¬ (x.kind = 8 ∧ way = true) by omega),hnx,Int.toNat_natCast]
    rfl
  obtain rfl | rfl | rfl | rfl | rfl | rfl | rfl | rfl | rfl | rfl : K = 0 ∨ K = 1 ∨ K = 2 ∨ K = 3 ∨ K = 4 ∨ K = 5 ∨ K = 6 ∨ K = 7 ∨ K = 8 ∨ K = 9:=by omega
  all_goals (cases hF)
  · exact go (.inl hk)
  · exact go (.inr (.inl hk))
  · exact go (.inr (.inr (.inl hk)))
  · exact sem_lock B gN gU k q x way th w hst hu hkl hth hs0 hlen16 h8 nx hnx a ha (ha3 (.inl hk)) how hk
  · exact QD B gN gU k q x way th w hst hu hkl hth hs0 hlen16 h8 nx hnx a ha (ha3 (.inr hk)) how hk
  · exact XZ B gN gU k q x way th w hst hu hkl hth hs0 hlen16 h8 nx hnx a ha al hal (hal5 hk) h8s hk
  · exact go (.inr (.inr (.inr hk)))
  · exact sem_call B gN gU k q x way th w hst hu hkl hth hs0 hlen16 h8 nx hnx a ha hk
  · exact QJ B gN gU k q x way th w hst hu hkl hth hs0 hlen16 h8 nx hnx al hal hk
  · exact Y0 B gN gU k q x way th w hst hu hkl hth hs0 hlen16 h8 hk
set_option maxRecDepth 100000 in
set_option maxHeartbeats 8000000 in
theorem QE (B : Nat) (p : Pg) (hf : Fine p) (q : Pc) (w : World) (hp : p.Ok w B) (hq : q.Ok w B) (hg : M.Good p q.cf) (hB : B ≤ w.heap.size) (k : Nat) (ht : I64 (k : Int)) (way : Bool) (hen : M.enabled p q.cf (k : Int) = true) (K F : Nat) (hK : K < 10) (hKF : deedL[K]? = some (fn9 F)) (hkk : (M.node p q.cf k).kind = (K : Int)) :
    Calls Tryd.prog 17 #[pcA q,pgA p,.agg #[.int .i64 (k : Int),.bool way]] w fun e w' => ∃ q',e = .returned (pcA q') ∧ Mine w' w.heap.size q' ∧ q'.cf = M.step p q.cf (k : Int) way ∧ Below w.heap.size w w':=by
  have h8 : q.len ≤ 8:=by rw [← hq.len];exact hg.most
  have h0q : 0 < q.len:=by rw [← hq.len];exact hg.one
  have HOw:=kp hg.owns
  have HQ17:=kp (lQ hg.owns)
  have HStk : Kept (∀ x ∈ q.tvs,x.sv.len ≤ 1000):=kp (fun x hx => by
    have h1:=M.high hf hp.row.len hg (x:=tvT x) (List.mem_map_of_mem hx)
    have h2:=hf.counts.f
    have h3 : (tvT x).stack.length = x.sv.len:=(hq.svs x hx).row.len
    omega)
  have HP:=kp hp;have HQ:=kp hq;have HG:=kp hg;have HFine:=kp hf;have HT:=kp ht;have HEn:=kp hen
  have HStep : Kept (M.step p q.cf (k : Int) way = M.act q.cf k (M.node p q.cf k) way):=kp (by unfold M.step;rw [hen,Int.toNat_natCast];rfl)
  have henN : M.enabledN p q.cf k = true:=by have h:=(M.enabled_split hen).2;rwa [Int.toNat_natCast] at h
  have hlN:=M.enabled_lives henN
  have HLN:=kp hlN
  have HLv : Kept (M.lives q.cf (k : Int) = true):=kp (by rw [M.lives_nat];exact hlN)
  have hkl : k < q.len:=by rw [← hq.len];exact M.lives_lt hlN
  obtain ⟨x,hx⟩ : ∃ x,M.node p q.cf k = x:=⟨_,rfl⟩
  have HX:=kp (XT HLv.out hx)
  obtain ⟨fn,hfn,_,_⟩:=M.node_is hg hlN
  have hfit:=M.node_fit hf hg hlN hfn
  have HGa:=kp (M.good_step hf hp.row.len hg (k : Int) way)
  rw [hx] at hfit HStep hkk
  obtain ⟨nx,hnx⟩ : ∃ nx : Nat,x.next = (nx : Int):=⟨x.next.toNat,by have:=hfit.next;omega⟩
  obtain ⟨a,hna⟩ : ∃ a : Nat,x.arg = (a : Int):=⟨x.arg.toNat,by have:=hfit.arg;omega⟩
  obtain ⟨al,hnal⟩ : ∃ al : Nat,x.alt = (al : Int):=⟨x.alt.toNat,by have:=hfit.alt;omega⟩
  have ha3 : x.kind = 3 ∨ x.kind = 4 → a < 16:=fun h => by have:=hfit.lock h;omega
  have hal5 : x.kind = 5 → al < 8:=fun h => by have:=hfit.spawn h;omega
  have HAx:=kp ha3;have HAl:=kp hal5;have HNx:=kp hnx;have HNa:=kp hna;have HNal:=kp hnal
  have HKk:=kp hkk;have HKF : Kept (K < 10 ∧ deedL[K]? = some (fn9 F)):=kp ⟨hK,hKF⟩
  rw [HStep.out] at HGa
  clear hp hq hg hf ht hen henN hlN hx hfn hfit ha3 hal5 hnx hna hnal hkk hK hKF
  rw [x7,jM]
  go_enter Tryd.func17,Tryd.ntmps17
  go_wp2_with (first
    | ((with_reducible refine j4 rfl 43 (.tmp 0) rfl (pcC q) rfl ?_);intro g1 w1 hg1 hk1 hw1;have HK1:=kp hk1;have HW1:=kp hw1;have hs1:=hw1.size;have hl1:=hk1.lt;clear hk1 hw1)
    | ((with_reducible refine j4 rfl 24 (.tmp 1) rfl (pgC p) rfl ?_);intro g2 w2 hg2 hk2 hw2;have HK12:=kp (HK1.out.below hw2 hl1);have HK2:=kp hk2;have HW2:=kp (HW1.out.trans (hw2.mono hs1));have hs2:=HW2.out.size;have hl12:=HK12.out.lt;have hl2:=hk2.lt;clear hk2 hw2)
    | ((with_reducible refine j4 rfl 60 (.tmp 2) rfl [.int .i64 (k : Int),.bool way] rfl ?_);intro g3 w3 hg3 hk3 hw3;have HK13:=kp (HK12.out.below hw3 hl12);have HK23:=kp (HK2.out.below hw3 hl2);have HK3:=kp hk3;have HW3:=kp (HW2.out.trans (hw3.mono hs2));have hs3:=HW3.out.size;have hl13:=HK13.out.lt;have hl23:=HK23.out.lt;have hl3:=hk3.lt;clear hk3 hw3)
    | ((with_reducible show Sl 6);go_must (refine j7 rfl 43 rfl _ lD ?_);intro g4 w4 hg4 hk4 hw4
       have HA1:=kp (HK13.out.below hw4 hl13);have HA2:=kp (HK23.out.below hw4 hl23);have HA3:=kp (HK3.out.below hw4 hl3);have HA4:=kp hk4;have HW4:=kp (HW3.out.trans (hw4.mono hs3));have hs4:=HW4.out.size
       have ha1:=HA1.out.lt;have ha2:=HA2.out.lt;have ha3:=HA3.out.lt;have ha4:=hk4.lt
       have HQ4:=kp ((HQ.out.below (HW4.out.mono hB)).more (show B ≤ w4.heap.size by omega))
       have hwg4 : w.heap.size ≤ g4:=by omega
       clear hk4 hw4)
    | ((with_reducible show Sl 10);go_must (refine j6 rfl 43 (.tmp 3) rfl g1 rfl _ (pcC q) _ HA1.out Tryd.underlying43 rfl (by rw [HQ17.out];exact jH) ?_))
    | (go_at_call 30;go_must (refine (u9 q w4 HQ4.out h8 h0q HOw.out HStk.out).mono ?_);rintro e w5 ⟨q',rfl,hmine,hcf,hqln,hqow,hb5⟩
       have HMi:=kp hmine;have HCfq:=kp hcf;have HQow:=kp hqow;have HL5:=kp hb5;have hs5:=hb5.size
       have HQ17' : Kept ((pcC q').length = 17):=kp (lQ (by rw [hqow];exact HOw.out))
       have HQln:=kp hqln
       clear hmine hcf hqow hqln hb5)
    | ((with_reducible show Sl 7);go_must (refine j7 rfl 43 rfl _ lD ?_);intro gN w6 hgN hk6 hw6;have HKN6:=kp hk6;have HM6:=kp hw6;have HL6:=kp (HL5.out.trans (hw6.mono hs5));have hs56:=hw6.size;clear hk6 hw6)
    | ((with_reducible show Sn);(refine j5 rfl 43 (.tmp 7) (.tmp 11) rfl gN (pcC q') rfl rfl _ _ HKN6.out (by rw [HQ17'.out];exact jH) (by rw [HQ17'.out];rfl) (lK q') ?_);intro w7 hk7 hg7 hs7
       have HKN7:=kp hk7;have HM7:=kp (HM6.out.grown hg7 hs56 (fun k e => by cases e;exact hgN));have HL7:=kp (HL6.out.grown hg7 (by omega) (fun k e => by cases e;omega));have hs47:=HL7.out.size
       have hp3:=(HA3.out.below HL7.out ha3).cell 0
       have HW7:=kp (HW4.out.trans (HL7.out.mono hs4))
       have HB7:=kp (HA1.out.below HL7.out ha1);have HB72:=kp (HA2.out.below HL7.out ha2)
       simp only [List.getElem?_cons_zero] at hp3
       clear hk7 hg7 hs7)
    | ((with_reducible show Sl 12);go_must (refine j6 rfl 43 (.tmp 3) rfl g1 rfl _ (pcC q) _ HB7.out Tryd.underlying43 rfl (by rw [HQ17.out];exact jH) ?_))
    | ((with_reducible show Sl 13);go_must (refine j6 rfl 24 (.tmp 4) rfl g2 rfl _ (pgC p) _ HB72.out Tryd.underlying24 rfl jL ?_))
    | (go_at_call 31;go_must (refine (vF B p HFine.out q w7 (HP.out.below (HW7.out.mono hB)) (HQ.out.below (HW7.out.mono hB)) HG.out (by have:=HW7.out.size;omega) (k : Int) HT.out true HEn.out).mono ?_);rintro e w8 ⟨rfl,hb8⟩
       have HM8:=kp (HM7.out.trans (hb8.mono HM7.out.size));have HL8:=kp (HL7.out.trans (hb8.mono hs47));have HKN8:=kp (HKN7.out.below hb8 HKN7.out.lt);have hs48:=HL8.out.size;have hs58:=HM8.out.size
       have HW8:=kp (HW4.out.trans (HL8.out.mono hs4))
       have HC8:=kp (HA1.out.below HL8.out ha1);have HC82:=kp (HA2.out.below HL8.out ha2);have HC84:=kp (HA4.out.below HL8.out ha4)
       have hp8:=(HA3.out.below HL8.out ha3).cell 0
       simp only [List.getElem?_cons_zero] at hp8
       have hgN8:=HKN8.out.lt
       clear hb8 hp3)
    | ((with_reducible show Sl 18);go_must (refine j6 rfl 43 (.tmp 3) rfl g1 rfl _ (pcC q) _ HC8.out Tryd.underlying43 rfl (by rw [HQ17.out];exact jH) ?_))
    | ((with_reducible show Sl 19);go_must (refine j6 rfl 24 (.tmp 4) rfl g2 rfl _ (pgC p) _ HC82.out Tryd.underlying24 rfl jL ?_))
    | (go_at_call 32;go_must (refine (zT B p HFine.out q w8 (HP.out.below (HW8.out.mono hB)) (HQ.out.below (HW8.out.mono hB)) HG.out (by have:=HW8.out.size;omega) (k : Int) HT.out true HLv.out x HX.out).mono ?_);rintro e w9 ⟨rfl,hb9⟩
       have HM9:=kp (HM8.out.trans (hb9.mono hs58));have HL9:=kp (HL8.out.trans (hb9.mono hs48));have HKN9:=kp (HKN8.out.below hb9 hgN8);have hs49:=HL9.out.size;have hs59:=HM9.out.size;have hgN9:=HKN9.out.lt;clear hb9)
    | ((with_reducible show Sl 8);go_must (refine j7 rfl 66 rfl (ndC ⟨0,0,0,0⟩) jU ?_);intro g8 wa hg8 hka hwa;have HKa:=kp hka;have HMa:=kp (HM9.out.trans (hwa.mono hs59));have HLa:=kp (HL9.out.trans (hwa.mono hs49));have HKNa:=kp (HKN9.out.below hwa hgN9);have hs5a:=HMa.out.size;have hs4a:=HLa.out.size;have hgNa:=HKNa.out.lt;clear hka hwa)
    | ((with_reducible show Sn);(refine j5 rfl 66 (.tmp 8) (.tmp 23) rfl g8 (ndC x) rfl rfl _ _ HKa.out jD rfl (jK _) ?_);intro wb hkb hgb hsb
       have HKb:=kp hkb;have HMb:=kp (HMa.out.grown hgb hs5a (fun k e => by cases e;omega));have HLb:=kp (HLa.out.grown hgb hs4a (fun k e => by cases e;omega));have HKNb:=kp (HKNa.out.grown hgb (fun e => by cases e;omega));clear hkb hgb hsb))
  have HNd : Kept (ndC x = [.int .i64 x.kind,.int .i64 x.arg,.int .i64 x.next,.int .i64 x.alt]):=kp rfl
  have hs4b:=HLb.out.size;have hs5b:=HMb.out.size
  have hgNb:=HKNb.out.lt;have hg8b:=HKb.out.lt
  have HA3b:=kp (HA3.out.below HLb.out ha3);have ha3b:=HA3b.out.lt
  have HA4b:=kp (HA4.out.below HLb.out ha4)
  have HWb:=kp (HW4.out.trans (HLb.out.mono hs4))
  have HTv : Kept (∃ th,q'.tvs[k]? = some th ∧ 0 < th.sv.len ∧ th.sv.len ≤ 1000 ∧ th.slots.length = 8):=kp (by
    have hlN:=HLN.out
    rw [← HCfq.out] at hlN
    have hlt:=M.lives_lt hlN
    rw [q'.ths_len] at hlt
    have hx1 : q'.tvs[k]? = some q'.tvs[k]:=List.getElem?_eq_getElem hlt
    have h1 : (M.th q'.cf k) = tvT q'.tvs[k]:=Pc.th_of hx1
    have hown:=(HMi.out.fam.own k q'.tvs[k].sv (by rw [List.getElem?_map,hx1];rfl)).len_is.1
    have hmem : tvT q'.tvs[k] ∈ q.cf.ths:=by rw [← HCfq.out];exact List.mem_map_of_mem (List.mem_of_getElem? hx1)
    have h2:=M.high HFine.out HP.out.row.len HG.out hmem
    have h3:=HFine.out.counts.f
    have h4 : (tvT q'.tvs[k]).stack.length = q'.tvs[k].sv.len:=hown
    refine ⟨_,hx1,?_,by omega,HG.out.eight _ hmem⟩
    unfold M.livesN at hlN
    rw [h1,decide_eq_true_eq] at hlN
    omega)
  obtain ⟨th,hth,hth0,hth1,hth8⟩:=HTv.out
  have HTh:=kp hth;have HTh8:=kp hth8
  have HKl : Kept (k < q'.len ∧ q'.len ≤ 8):=kp (by rw [HQln.out];exact ⟨hkl,h8⟩)
  have HOw' : Kept (q'.ow.length = 16):=kp (by rw [HQow.out];exact HOw.out)
  clear hth hth8 hp8
  have HAct : Kept (M.act q'.cf k x way = M.act q.cf k x way):=kp (by rw [HCfq.out])
  go_wp2
  apply jJ 8 (.is (.agg deedL.toArray) :: .is _ :: .is (.int .i64 (K : Int)) :: .is (.func (.func F) #[] #[]) :: .is (.agg #[.int .i64 (k : Int),.bool way]) :: .is (.agg #[.int .i64 x.kind,.int .i64 x.arg,.int .i64 x.next,.int .i64 x.alt]) :: .is (.agg #[.pointer (some ⟨gN,0,none⟩),.int .i64 (k : Int),.bool way,.int .i64 x.kind,.int .i64 x.arg,.int .i64 x.next,.int .i64 x.alt]) :: Fact.turn gN k way x wb.heap.size :: [])
    [[],[],[(1,26)],[(0,25),(2,27)],[],[],[(4,29),(5,30)],[(6,31)],[(3,28),(7,32)]]
    [(0,25),(1,26),(2,27),(3,28),(4,29),(5,30),(6,31),(7,32)] (by kernel_rfl) (by kernel_rfl) (by kernel_rfl) (by kernel_rfl) (by kernel_rfl)
  case hob =>
    refine ⟨?o0,?o1,?o2,?o3,?o4,?o5,?o6,?o7,trivial⟩
    case o0 =>
      intro W hW;change wpList _ _ _ _ _ _
      clear hW
      go_wp2_with fail
      refine (Y1 W).mono ?_
      rintro e w2 ⟨rfl,hb2⟩
      have HB2:=kp hb2;clear hb2
      go_wp2
      exact jE rfl rfl rfl HB2.out rfl
    case o1 => intro W hW;change wpList _ _ _ _ _ _;go_wp2;exact j3 rfl rfl rfl
    case o2 =>
      intro W hW;rintro _ rfl;change wpList _ _ _ _ _ _
      have hc:=(HKb.out.below hW hg8b).cell 0
      rw [HNd.out,List.getElem?_cons_zero,HKk.out] at hc
      go_wp2;exact j3 rfl rfl rfl
    case o3 =>
      intro W hW;rintro _ rfl;rintro _ rfl;change wpList _ _ _ _ _ _
      clear hW
      go_wp2_with ((with_reducible show Sl 28);go_must (refine zR rfl 89 (.tmp 25) (.tmp 27) rfl 10 88 Tryd.underlying89 _ Tryd.underlying88 rfl XV deedL rfl K rfl HKF.out.1 (.func (.func F) #[] #[]) HKF.out.2 ?_))
      exact j3 rfl rfl rfl
    case o4 =>
      intro W hW;change wpList _ _ _ _ _ _
      have hb:=HA3b.out.below hW ha3b
      have hc0:=hb.cell 0;have hc1:=hb.cell 1
      simp only [List.getElem?_cons_zero,List.getElem?_cons_succ] at hc0 hc1
      clear hb
      go_wp2;exact j3 rfl rfl rfl
    case o5 =>
      intro W hW;change wpList _ _ _ _ _ _
      obtain ⟨hc0,hc1,hc2,hc3⟩:=jB (HKb.out.below hW hg8b)
      go_wp2;exact j3 rfl rfl rfl
    case o6 => intro W hW;rintro _ rfl;rintro _ rfl;change wpList _ _ _ _ _ _;go_wp2;exact j3 rfl rfl rfl
    case o7 =>
      intro W hW;rintro _ rfl;change wpList _ _ _ _ _ _
      have hbs:=hW.size
      clear hW
      have HB5:=kp ((Below.refl W.heap.size W).alloc (Nat.le_refl _) (.cells #[.pointer (some ⟨gN,0,none⟩),.int .i64 (k : Int),.bool way,.int .i64 x.kind,.int .i64 x.arg,.int .i64 x.next,.int .i64 x.alt] 94))
      go_wp2
      exact jE rfl rfl rfl HB5.out ⟨W.heap.size,rfl,Blk.newA W _ _ [.pointer (some ⟨gN,0,none⟩),.int .i64 (k : Int),.bool way,.int .i64 x.kind,.int .i64 x.arg,.int .i64 x.next,.int .i64 x.alt] rfl,hbs⟩
  case hend =>
    intro W hW;rintro _ rfl;rintro _ rfl;rintro _ rfl;rintro _ rfl;rintro _ rfl;rintro _ rfl;rintro _ rfl;rintro _ ⟨gU,rfl,hku,hgu⟩
    simp only [given,jI,List.set,List.drop]
    have hul:=hku.lt
    have HStW:=kp (HMi.out.st (HMb.out.trans (hW.mono hs5b)) (HKNb.out.below hW hgNb) hgN (by omega) hul (by omega))
    have HKu:=kp hku
    have HLw:=kp (hW.mono hs4b)
    clear hW hku
    go_wp2_with fail
    rw [LU HKF.out.1 HKF.out.2,Oper.upon_enter]
    refine (sem_deed w4.heap.size gN gU k q' x way th _ HStW.out HKu.out HKl.out.1 HTh.out hth0 hth1 HKl.out.2 nx HNx.out a HNa.out al HNal.out HAx.out HAl.out HTh8.out HOw'.out K F HKF.out.1 HKF.out.2 HKk.out).mono ?_
    rintro e w_ ⟨rfl,q3,hst3,hcf3,hb3⟩
    have HKNe:=kp hst3;have HCf3:=kp hcf3;have HLe:=kp (HLw.out.trans hb3)
    clear hst3 hcf3 hb3
    have HKw:=kp (HKNe.out.conf)
    have hq17 : (pcC q3).length = 17:=lQ (by have h:=HGa.out.owns;rw [← HAct.out,← HCf3.out] at h;exact h)
    have HQe:=kp hq17
    have HA4e:=kp (HA4b.out.below (HLe.out) (by omega))
    have HWe0:=kp (HWb.out.trans (HLe.out.mono (by have:=HWb.out.size;omega)))
    clear hq17
    go_wp2_with (first
      | ((with_reducible show Sl 34);go_must (refine j6 rfl 43 (.tmp 7) rfl gN rfl _ (pcC q3) _ HKw.out Tryd.underlying43 rfl (by rw [HQe.out];exact jH) ?_))
      | ((with_reducible show Sn);(refine j5 rfl 43 (.tmp 6) (.tmp 34) rfl g4 (pcC q3) rfl rfl _ _ HA4e.out (by rw [HQe.out];exact jH) (by rw [HQe.out];rfl) (lK q3) ?_);intro we hke hge hse
         have HKe:=kp hke;have HOk:=kp (HKNe.out.mine.away2 hge ha4 HW4.out.size);have HWe:=kp (HWe0.out.grown hge HWe0.out.size (fun k e => by cases e;exact hwg4))
         clear hke hge hse)
      | ((with_reducible show bodyPost _ _ _ _ _ _);exact bodyPost_ret (jZ (P:=Tryd.prog) (fn:=Tryd.f17) rfl _ _ g4 43 _ _ rfl HKe.out Tryd.underlying43 rfl (by rw [HQe.out];exact jH)) rfl ⟨q3,rfl,HOk.out,by rw [HCf3.out,HAct.out,HStep.out],HWe.out⟩))
end Go.Proofs.YtoekiejipdabmaaDoor
