/- Find, walked. -/
import Derived.Test.YtnaomfmmkhgbhaaPk14
import Derived.Test.YtnaomfmmkhgbhaaRaceP4
import Derived.Test.YtnaomfmmkhgbhaaPk11
import Derived.Carry
namespace Go.Proofs.Ytnaomfmmkhgbhaa
open Go.RowKit
theorem J8 {P : Program} {ops : Array Oper} {rest : List Oper} {o : Oper} {a : Act} {w : World} {Q : Exit → Act → World → Prop} (hgd : o.guard = none) (t : TypeId) (ho : o.op = .makeMap t none)
    (h : ∀ g w',w.heap.size ≤ g → (∀ k (R : Value → Option (DataW Unit × List MemPlace)),w'.ownsMap P k R g 0 (.map [])) → g < w'.heap.size → Below w.heap.size w w' → wpList P ops Q rest (a.put o.dst (.map (some g))) w') : wpList P ops Q (o :: rest) a w:=by
  refine wpList_plain hgd fun K hK => ?_
  unfold Oper.wp execOp
  simp [ho,run_makeMap,Result.andThen]
  exact hK _ _ (h _ _ (Nat.le_refl _) (fun k R => World.ownsMap_made w P k R) (World.ownsMap_made (H:=Unit) w P 0 (fun _ => none)).lt ((Below.refl _ _).alloc (Nat.le_refl _) _))
theorem X0 (A : Option Addr) (n c : Nat) (g l s m : Int) (gM : Nat) : Try.prog.built 61 [(0,.agg ([.int .i64 g,.int .i64 l,.int .i64 s,.slice A n c] : List Value).toArray),(1,.int .i64 m),(4,.map (some gM))] = some ([.int .i64 g,.int .i64 l,.int .i64 s,.slice A n c,.int .i64 m,.slice none 0 0,.slice none 0 0,.map (some gM),.slice none 0 0,.bool false] : List Value).toArray:=by kernel_rfl
theorem XC : (Try.prog.info? 61).map (·.zero) = some (some (.agg ([.int .i64 0,.int .i64 0,.int .i64 0,.slice none 0 0,.int .i64 0,.slice none 0 0,.slice none 0 0,.map none,.slice none 0 0,.bool false] : List Value).toArray)):=by kernel_rfl
theorem XD : (Try.prog.info? 61).map (·.size) = some 10:=by kernel_rfl
theorem LO : Try.prog.built 64 [] = some ([.int .i64 0,.int .i64 0,.bool false] : List Value).toArray:=by kernel_rfl
theorem J9 {P : Program} {ops : Array Oper} {rest : List Oper} {o : Oper} {a : Act} {w : World} {Q : Exit → Act → World → Prop} (hg : o.guard = none) (t : TypeId) (i j k : Nat) (x y z : Operand) (ho : o.op = .build t #[(i,x),(j,y),(k,z)])
    (v u s : Value) (hx : a.eval x = v) (hy : a.eval y = u) (hz : a.eval z = s) (cs : List Value) (hf : P.built t [(i,v),(j,u),(k,s)] = some cs.toArray)
    (h : wpList P ops Q rest (a.put o.dst (.agg cs.toArray)) w) : wpList P ops Q (o :: rest) a w :=
  lL hg t _ ho [(i,v),(j,u),(k,s)] (by simp [hx,hy,hz]) cs hf h
def sr0 (gM : Nat) : Sr:=⟨none,0,0,none,0,0,gM,none,0,0,false⟩
theorem sr0_ones (p : Pg) (most : Int) (gM : Nat) : ∀ v ∈ srC p most (sr0 gM),v.oneCell' = true:=by
  intro v hv
  simp only [srC,List.mem_cons,List.not_mem_nil,or_false] at hv
  rcases hv with rfl | rfl | rfl | rfl | rfl | rfl | rfl | rfl | rfl | rfl <;> rfl
section
variable {w w' w0 : World} {B gS : Nat} {p : Pg} {most : Int} {r r' : Sr} {s : K.Sk} {i : Nat} {qs : List Pc} {l : List K.En} {m : List (List Nat)}
theorem SkS.under (hs : SkS w w' gS r r') (h : SkP w B gS p most r l m qs) (hb : Below B w0 w) (hB : B ≤ w.heap.size) : Below B w0 w' :=
  ⟨hs.1.os.trans hb.os,hs.1.tape.trans hb.tape,hs.1.output.trans hb.output,Nat.le_trans hb.size hs.1.size,fun k hk => (hs.1.block k ⟨by omega,fun e => by have:=(h.lt e).1;omega⟩).trans (hb.block k hk)⟩
theorem OwnT.less {α : Type} {sz : Nat} {f : α → Nat → Value} {B' n cap : Nat} {e : TypeId} {A : Option Addr} {l : List α} (h : OwnT sz f w B e A n cap l) (hB : B' ≤ B) : OwnT sz f w B' e A n cap l:=by
  refine ⟨h.1,h.2.1,h.2.2.1,?_⟩
  rcases h.2.2.2 with h1 | ⟨g,off,cur,h1,h2,h3⟩
  · exact .inl h1
  · exact .inr ⟨g,off,cur,h1,Nat.le_trans hB h2,h3⟩
theorem SkM.takes (h : SkM w B gS p most r s i qs) {e : K.En} (he : s.all[i]? = some e) : ∃ q1 qs1,qs = q1 :: qs1 ∧ q1.cf = e.cf ∧ qs1.map Pc.cf = (s.all.drop (i + 1)).map (·.cf):=by
  have h1:=h.cfs
  have hi:=(List.getElem?_eq_some_iff.1 he).1
  have h3 : s.all[i] = e:=by rw [List.getElem?_eq_getElem hi] at he;exact Option.some.inj he
  rw [List.drop_eq_getElem_cons hi,List.map_cons,h3] at h1
  cases qs with
  | nil => cases h1
  | cons a b =>
    rw [List.map_cons] at h1
    injection h1 with h4 h5
    exact ⟨a,b,rfl,h4,h5⟩
theorem SkM.new {gM : Nat} (hb : Blk w gS 61 (srC p most (sr0 gM))) (hB : B ≤ gS) (hM : B ≤ gM) (hm : w.ownsMap Try.prog 9 (plainElem Try.prog 4) gM 0 (.map [] : DataW Unit)) : SkM w B gS p most (sr0 gM) ⟨[],false⟩ 0 [] :=
  ⟨⟨hb,hB,OwnT.nil _ _ _ _ _,OwnT.nil _ _ _ _ _,⟨[],Own.nil _ _ _,by simp⟩,⟨hM,.map [],hm,MapIs.nil⟩,fun q hq => by cases hq⟩,rfl,rfl,Nat.le_refl _⟩
end
def FindPost (p : Pg) (most : Int) (cc : Nat) (w : World) : Ending → World → Prop:=fun e w' => ∃ (A : Option Addr) (n cap : Nat) (l : List (Int × Bool)) (is : Nat),e = .returned (.tuple #[.slice A n cap,.int .i64 (is : Int),.int .i64 (cc : Int)]) ∧ OwnT 2 pkV w' w.heap.size 51 A n cap l ∧ n ≤ 5000 ∧ (cc = 0 → K.Out p most l is) ∧ (cc ≠ 0 → l = [] ∧ is = 0) ∧ Below w.heap.size w w'
set_option maxRecDepth 100000 in
set_option maxHeartbeats 3200000 in
theorem xZ (B0 : Nat) (p : Pg) (most : Int) (hmost : most ≤ 5000 ∧ -9223372036854775808 ≤ most) (w : World) (hp : p.Ok w B0) (hB0 : B0 ≤ w.heap.size) (ca cb : Int) (cc : Nat) (hc : Q.check p = (ca,cb,cc)) :
    Calls Try.prog 10 #[pgA p,.int .i64 most] w (FindPost p most cc w):=by
  unfold FindPost
  have HP:=kp hp;have HC:=kp hc
  clear hp hc
  rw [jI]
  go_enter Try.func10,Try.ntmps10
  by_cases hz : cc = 0
  rotate_left
  · have hb0 : ((cc : Int) != 0) = true:=by simpa using hz
    have HZ:=kp hz
    clear hz
    go_wp2_with (first
      | ((with_reducible refine j2 rfl 24 (.tmp 0) rfl (pgC p) rfl ?_);intro g2 w1 hg2 hk1 hw1;have HK1:=kp hk1;have HW1:=kp hw1;have hs1:=hw1.size;have hl1:=hk1.lt;clear hk1 hw1)
      | ((with_reducible show Sl 17);go_must (refine j1 rfl 24 (.tmp 2) rfl g2 rfl _ (pgC p) _ HK1.out Try.underlying24 rfl jD ?_))
      | (go_at_call 15;go_must (refine (xM B0 p w1 (HP.out.below (HW1.out.mono hB0)) (by omega) ca cb cc HC.out).mono ?_);rintro e w3 ⟨q,rfl,_,_,_,h16,hb3⟩;have H17:=kp (jT h16);have HW3:=kp (HW1.out.trans (hb3.mono hs1));have hs3:=HW3.out.size;clear hb3 h16)
      | ((with_reducible show Sl 7);go_must (refine j3 rfl 46 rfl _ jZ ?_);intro g7 w4 hg7 hk4 hw4;have HK4:=kp hk4;have HW4:=kp (HW3.out.trans (hw4.mono hs3));have hs4:=HW4.out.size;have hg7b : w.heap.size ≤ g7:=Nat.le_trans hs3 hg7;clear hk4 hw4)
      | ((with_reducible show Sn);go_must (refine j4 rfl 46 (.tmp 7) (.tmp 19) rfl g7 (pcC q) rfl rfl _ _ HK4.out (by rw [H17.out];exact jA) (by rw [H17.out];rfl) (jW q) ?_);intro w5 hk5 hgr5 hz5;have HW5:=kp (HW4.out.grown hgr5 hs4 (fun k e => by cases e;exact hg7b));clear hk5 hgr5 hz5))
    refine bodyPost_ret (results_tmp3 rfl _ _ _) rfl ?_
    exact ⟨none,0,0,[],0,rfl,OwnT.nil _ _ _ _ _,by omega,fun h => absurd h HZ.out,fun _ => ⟨rfl,rfl⟩,HW5.out⟩
  · have HZ : Kept ((cc : Int) = 0):=kp (by omega)
    have hb0 : ((cc : Int) != 0) = false:=by rw [HZ.out];rfl
    have HF : Kept (Fine p):=kp (qZ (by rw [HC.out,hz]))
    have HL : Kept (p.fns.length = p.len):=kp HP.out.row.len
    have HCz:=kp hz
    clear hz
    go_wp2_with (first
      | ((with_reducible refine j2 rfl 24 (.tmp 0) rfl (pgC p) rfl ?_);intro g2 w1 hg2 hk1 hw1;have HK1:=kp hk1;have HW1:=kp hw1;have hs1:=hw1.size;have hl1:=hk1.lt;clear hk1 hw1)
      | ((with_reducible show Sl 17);go_must (refine j1 rfl 24 (.tmp 2) rfl g2 rfl _ (pgC p) _ HK1.out Try.underlying24 rfl jD ?_))
      | (go_at_call 15;go_must (refine (xM B0 p w1 (HP.out.below (HW1.out.mono hB0)) (by omega) ca cb cc HC.out).mono ?_);rintro e w3 ⟨q,rfl,hm3,hcf3,_,h16,hb3⟩;have H17:=kp (jT h16);have HQ3:=kp (hm3.less hs1);have HCf:=kp (hcf3 HCz.out);have HW3:=kp (HW1.out.trans (hb3.mono hs1));have HK3:=kp (HK1.out.below hb3 hl1);have hs3:=HW3.out.size;have hl3:=HK3.out.lt;clear hb3 h16 hm3 hcf3)
      | ((with_reducible show Sl 7);go_must (refine j3 rfl 46 rfl _ jZ ?_);intro g7 w4 hg7 hk4 hw4;have HK74:=kp hk4;have HW4:=kp (HW3.out.trans (hw4.mono hs3));have HM4:=kp hw4;have HK4:=kp (HK3.out.below hw4 hl3);have HQ4:=kp (HQ3.out.below hw4 (Nat.le_refl _));have hs4:=HW4.out.size;have hs34:=hw4.size;have hg7b : w.heap.size ≤ g7:=Nat.le_trans hs3 hg7;clear hk4 hw4)
      | ((with_reducible show Sn);refine j4 rfl 46 (.tmp 7) (.tmp 19) rfl g7 (pcC q) rfl rfl _ _ HK74.out (by rw [H17.out];exact jA) (by rw [H17.out];rfl) (jW q) ?_;intro w5 hk5 hgr5 hz5;have HM5:=kp (HM4.out.grown hgr5 hs34 (fun k e => by cases e;exact hg7));have HK75:=kp hk5;have HK5:=kp (HK3.out.below HM5.out hl3);have HQ5:=kp (HQ3.out.below HM5.out (Nat.le_refl _));have HW5:=kp (HW3.out.trans (HM5.out.mono hs3));have hs5:=HW5.out.size;have hl25:=HK5.out.lt;have hl75:=hk5.lt;clear hk5 hgr5 hz5)
      | ((with_reducible show Sl 24);go_must (refine j1 rfl 24 (.tmp 2) rfl g2 rfl _ (pgC p) _ HK5.out Try.underlying24 rfl jD ?_))
      | ((with_reducible show Sl 26);go_must (refine J8 rfl 57 rfl ?_);intro gM w6 hgM hm6 hlM hw6;have HMp6:=kp (hm6 9 (plainElem Try.prog 4));have HGM:=kp (Nat.le_trans hs5 hgM);have HW6:=kp (HW5.out.trans (hw6.mono hs5));have HK6:=kp (HK5.out.below hw6 hl25);have HK76:=kp (HK75.out.below hw6 hl75);have HQ6:=kp (HQ5.out.below hw6 (Nat.le_refl _));have hs6:=HW6.out.size;have hl26:=HK6.out.lt;have hl76:=HK76.out.lt;clear hm6 hw6)
      | ((with_reducible show Sl 27);go_must (refine J9 rfl 61 0 1 4 (.tmp 24) (.tmp 25) (.tmp 26) rfl (.agg (pgC p).toArray) (.int .i64 most) (.map (some gM)) rfl rfl rfl (srC p most (sr0 gM)) (X0 _ _ _ _ _ _ _ _) ?_))
      | ((with_reducible show Sl 9);go_must (refine j3 rfl 61 rfl _ XC ?_);intro gS w7 hgS hk7 hw7;have HKS7:=kp hk7;have HGS:=kp hgS;have HM7:=kp hw7;have HlM:=kp hlM;clear hk7 hw7)
      | ((with_reducible show Sn);refine j4 rfl 61 (.tmp 9) (.tmp 27) rfl gS (srC p most (sr0 gM)) rfl rfl _ _ HKS7.out XD rfl (sr0_ones p most gM) ?_;intro w8 hk8 hgr8 hz8;have HM8:=kp (HM7.out.grown hgr8 HM7.out.size (fun k e => by cases e;exact HGS.out));have HKS8:=kp hk8;have HK8:=kp (HK6.out.below HM8.out hl26);have HK78:=kp (HK76.out.below HM8.out hl76);have HQ8:=kp (HQ6.out.below HM8.out (Nat.le_refl _));have HW8:=kp (HW6.out.trans (HM8.out.mono hs6));have hs8:=HW8.out.size;clear hk8 hgr8 hz8)
      | ((with_reducible show Sl 28);go_must (refine j1 rfl 46 (.tmp 7) rfl g7 rfl _ (pcC q) _ HK78.out Try.underlying46 rfl (by rw [H17.out];exact jA) ?_))
      | ((with_reducible show Sl 29);go_must (refine lL rfl 64 #[] rfl [] (by simp) _ LO ?_))
      | (go_at_call 19;fail))
    have hm8 : SkM w8 w.heap.size gS p most (sr0 gM) ⟨[],false⟩ 0 []:=SkM.new HKS8.out (by have:=HGS.out;omega) HGM.out (by obtain ⟨es,clock,h1,h2⟩:=HMp6.out;exact ⟨es,clock,(HM8.out.block _ HlM.out).trans h1,h2⟩)
    have HSM8:=kp hm8
    have hn2 : ¬ SkT (sr0 gM) gS g2:=fun e => by
      rcases e with e | e | e | e | e
      · have:=HGS.out;omega
      · have h1 : g2 = gM:=e
        omega
      · cases e
      · cases e
      · cases e
    have HN28:=kp hn2
    clear hm8 hn2
    have hq:=YJ w.heap.size gS p HF.out HL.out most hmost (sr0 gM) ⟨[],false⟩ 0 [] w8 HSM8.out ⟨fun e he => (by cases he),.inr rfl,fun i j e f hi => (by simp at hi),fun i e hi => (by simp at hi)⟩ q HQ8.out (by rw [HCf.out];exact M.good_start HF.out) (by rw [HCf.out];exact K.low_start p) 0 0 false [] hs8
    go_must (refine hq.mono ?_)
    rintro e w9 ⟨rfl,r9,qs9,hm9,hs9⟩
    rw [HCf.out] at hm9
    have HM9 : Kept (SkM w9 w.heap.size gS p most r9 (K.st p most 0) 0 qs9):=kp hm9
    have HS9:=kp hs9
    clear hq hm9 hs9
    go_wp2
    go_loopw [10] (fun v10 wr => ∃ (k : Nat) (r : Sr) (qs : List Pc),k ≤ (K.st p most k).all.length ∧ v10 = .int .i64 (k : Int) ∧ SkM wr w.heap.size gS p most r (K.st p most k) k qs ∧ SkS w8 wr gS (sr0 gM) r ∧ (∀ j,j < k → j < (K.st p most j).all.length ∧ ¬ K.Racy p (K.en p most j).cf)) (fun v10 _ => 5000 - (intOf v10).toNat)
    case atStart => exact ⟨0,r9,qs9,by omega,rfl,HM9.out,HS9.out,fun j hj => by omega⟩
    case round =>
      obtain ⟨k,r,qs,hk,rfl,hm,hs,hall⟩:=hrel
      have HM:=kp hm;have HS:=kp hs;have HAll:=kp hall
      have hln : (K.st p most k).all.length = r.ln:=hm.pt.list.1
      have hlm : r.ln ≤ 5000:=by
        rcases K.st_len HF.out HL.out most k with h | h <;> omega
      have hle:=hm.le
      have HB:=kp (HS.out.under HSM8.out.pt HW8.out hs8)
      have hsr:=HB.out.size
      obtain ⟨hk2,hn2⟩:=HS.out.box HK8.out HN28.out
      have HK2:=kp hk2;have HN2:=kp hn2
      have hlr2:=hk2.lt
      have hSr:=hm.pt.blk.lt
      have hc5 : wr.cell? ⟨gS,5,none⟩ = some (.slice r.LA r.ln r.lc):=hm.pt.blk.cell 5
      have hc9 : wr.cell? ⟨gS,9,none⟩ = some (.bool r.left):=hm.pt.blk.cell 9
      clear hm hs hall hk2 hn2
      by_cases hlt : (k : Int) < (r.ln : Int)
      · have hkl : k < (K.st p most k).all.length:=by omega
        have HEk : Kept ((K.st p most k).all[k]? = some (K.en p most k)):=kp (K.en_at hkl)
        have HInv:=kp (K.inv_st HF.out HL.out most k)
        obtain ⟨q1,qs1,hqs,hq1⟩ : ∃ q1 qs1,qs = q1 :: qs1 ∧ q1.cf = (K.en p most k).cf ∧ qs1.map Pc.cf = ((K.st p most k).all.drop (k + 1)).map (·.cf):=HM.out.takes HEk.out
        subst hqs
        have HQ1:=kp hq1
        clear hq1
        go_wp2_with (go_at_call 20;fail)
        refine (sk_next w.heap.size gS p most r _ _ q1 qs1 wr HM.out.pt).mono ?_
        rintro e w2 ⟨rfl,r2,hp2,hs2,hl2,hm2⟩
        have HG1 : Kept (M.Good p q1.cf):=kp (by rw [HQ1.out.1];exact HInv.out.good _ (List.mem_of_getElem? HEk.out))
        have H117 : Kept ((pcC q1).length = 17):=kp (jT HG1.out.owns)
        have HM2 : Kept (SkM w2 w.heap.size gS p most r2 (K.st p most k) (k + 1) qs1):=kp ⟨hp2,hl2.trans HM.out.left,HQ1.out.2,by omega⟩
        have HS2:=kp (HS.out.trans hs2)
        have HB2:=kp (HS2.out.under HSM8.out.pt HW8.out hs8)
        have hsz2:=HB2.out.size
        have HQm2:=kp hm2
        have HE2:=kp (hs2.box HK2.out HN2.out)
        clear hp2 hs2 hl2 hm2
        have hlt2:=HE2.out.1.lt
        go_wp2_with (first
          | ((with_reducible show Sl 11);go_must (refine j3 rfl 46 rfl _ jZ ?_);intro g11 w3 hg11 hk3 hw3;have HK113:=kp hk3;have HG11:=kp hg11;have HX3:=kp hw3;clear hk3 hw3)
          | ((with_reducible show Sn);refine j4 rfl 46 (.tmp 11) (.tmp 38) rfl g11 (pcC q1) rfl rfl _ _ HK113.out (by rw [H117.out];exact jA) (by rw [H117.out];rfl) (jW q1) ?_;intro w4 hk4 hgr4 hz4;have HX4:=kp (HX3.out.grown hgr4 HX3.out.size (fun k e => by cases e;exact HG11.out));have HK114:=kp hk4;have HK24:=kp (HE2.out.1.below HX4.out hlt2);have HM4:=kp (HM2.out.below HX4.out (Nat.le_refl _));have HQm4:=kp (HQm2.out.below HX4.out (Nat.le_refl _));have HB4:=kp (HB2.out.trans (HX4.out.mono hsz2));have HS4:=kp (HS2.out.trans (SkS.below (gS:=gS) (r:=r2) HX4.out (Nat.le_refl _)));have hs4:=HB4.out.size;have hl114:=hk4.lt;have hl24:=HK24.out.lt;clear hk4 hgr4 hz4)
          | ((with_reducible show Sl 40);go_must (refine j1 rfl 24 (.tmp 2) rfl g2 rfl _ (pgC p) _ HK24.out Try.underlying24 rfl jD ?_))
          | ((with_reducible show Sl 41);go_must (refine j1 rfl 46 (.tmp 11) rfl g11 rfl _ (pcC q1) _ HK114.out Try.underlying46 rfl (by rw [H117.out];exact jA) ?_))
          | (go_at_call 21;fail))
        refine (JT w4.heap.size p HF.out q1 w4 (lD (HP.out.below (HB4.out.mono hB0)) (by omega)) HQm4.out.ok HG1.out (Nat.le_refl _)).mono ?_
        rintro e w5 ⟨x,y,z,b,rfl,hfst,hb5⟩
        have hs45:=hb5.size
        have HFst:=kp hfst
        have HK115:=kp (HK114.out.below hb5 hl114);have HM5:=kp (HM4.out.below hb5 (Nat.le_refl _));have HQm5:=kp (HQm4.out.below hb5 (Nat.le_refl _));have HB5:=kp (HB4.out.trans (hb5.mono hs4));have HS5:=kp (HS4.out.trans (SkS.below (gS:=gS) (r:=r2) hb5 (Nat.le_refl _)))
        have hs5:=HB5.out.size
        clear hfst hb5
        cases b with
        | true =>
          have HR : Kept (K.Racy p (K.en p most k).cf):=kp (by rw [← HQ1.out.1];exact (K.racy_of HFst.out).1 rfl)
          go_wp2_with (go_at_call 22;fail)
          refine (sk_path w.heap.size gS p most r2 _ _ qs1 w5 HM5.out.pt HInv.out.src k (K.en p most k) HEk.out (by omega)).mono ?_
          rintro e w6 ⟨A,n,cap,rfl,ho6,hn6,hb6⟩
          have HO6:=kp (ho6.less hs5);have HB6:=kp (HB5.out.trans (hb6.mono hs5));have hn5 : n ≤ 5000:=by omega
          clear ho6 hb6
          go_wp2
          (try simp only [Exit.inBlock,Exit.then])
          refine bodyPost_ret (results_tmp3 rfl _ _ _) rfl ?_
          exact ⟨A,n,cap,_,1,by rw [HCz.out];rfl,HO6.out,hn5,fun _ => ⟨k,HAll.out,.inl ⟨hkl,HR.out,rfl,rfl⟩⟩,fun h => absurd HCz.out h,HB6.out⟩
        | false =>
          have HR : Kept (¬ K.Racy p (K.en p most k).cf):=kp (by
            rw [← HQ1.out.1];intro h
            have:=(K.racy_of HFst.out).2 h
            exact absurd this (by decide))
          have HLo : Kept (K.Low p q1.cf):=kp (by rw [HQ1.out.1];exact K.low_all HF.out HL.out HInv.out (k + 1) k _ (by omega) HEk.out)
          go_wp2_with (first
            | ((with_reducible show Sl 51);go_must (refine j1 rfl 46 (.tmp 11) rfl g11 rfl _ (pcC q1) _ HK115.out Try.underlying46 rfl (by rw [H117.out];exact jA) ?_))
            | (go_at_call 23;fail))
          refine (sk_goOn w.heap.size B0 gS p HF.out HL.out most hmost r2 (K.st p most k) (k + 1) qs1 w5 HM5.out HInv.out q1 HQm5.out HLo.out k (K.en p most k) HEk.out HQ1.out.1 (HP.out.below (HB5.out.mono hB0)) hB0 hs5).mono ?_
          rintro e w6 ⟨rfl,r6,qs6,hm6,hs6⟩
          have HM6 : Kept (SkM w6 w.heap.size gS p most r6 (K.st p most (k + 1)) (k + 1) qs6):=kp (by rw [K.st_succ];exact hm6)
          have HS6:=kp (HS5.out.trans hs6)
          clear hm6 hs6
          go_wp2
          go_roundw
          case rel => exact ⟨k + 1,r6,qs6,by have:=(K.st_pre p most (show k ≤ k + 1 by omega)).len;omega,by go_num,HM6.out,HS6.out,fun j hj => by
            by_cases e : j = k
            · subst e;exact ⟨hkl,HR.out⟩
            · exact HAll.out j (by omega)⟩
          case measure => simp [intOf];omega
      · have hge : (K.st p most k).all.length ≤ k:=by omega
        cases hl : r.left with
        | true =>
          have HOut : Kept (K.Out p most [] 0):=kp ⟨k,HAll.out,.inr ⟨hge,rfl,by rw [← HM.out.left,hl];rfl⟩⟩
          rw [hl] at hc9
          go_wp2
          refine bodyPost_ret (results_tmp3 rfl _ _ _) rfl ?_
          exact ⟨none,0,0,[],0,by rw [HCz.out];rfl,OwnT.nil _ _ _ _ _,by omega,fun _ => HOut.out,fun h => absurd HCz.out h,HB.out⟩
        | false =>
          have HOut : Kept (K.Out p most [] 2):=kp ⟨k,HAll.out,.inr ⟨hge,rfl,by rw [← HM.out.left,hl];rfl⟩⟩
          rw [hl] at hc9
          go_wp2
          refine bodyPost_ret (results_tmp3 rfl _ _ _) rfl ?_
          exact ⟨none,0,0,[],2,by rw [HCz.out];rfl,OwnT.nil _ _ _ _ _,by omega,fun _ => HOut.out,fun h => absurd HCz.out h,HB.out⟩
end Go.Proofs.Ytnaomfmmkhgbhaa
