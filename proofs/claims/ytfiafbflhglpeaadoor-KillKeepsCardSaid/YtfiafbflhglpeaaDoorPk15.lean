/- SemPe, SemPf. -/
import Derived.Test.YtfiafbflhglpeaaDoorPk14
import Derived.Test.YtfiafbflhglpeaaDoorPk12
import Derived.Test.YtfiafbflhglpeaaDoorPk13
import Derived.Test.YtfiafbflhglpeaaDoorSemPb
namespace Go.Proofs.YtfiafbflhglpeaaDoor
open Go.RowKit
def fn9 (f : Nat) : Value:=.func (.func f) #[] #[]
def deedL : List Value:=[fn9 52,fn9 52,fn9 52,fn9 53,fn9 54,fn9 55,fn9 52,fn9 56,fn9 57,fn9 58]
theorem Q7 : (Tryd.prog.info? 82).map (·.zero) = some (some (.agg (List.replicate 10 Value.nilFunc).toArray)):=by kernel_rfl
theorem vT : (Tryd.prog.info? 82).map (·.size) = some 10:=by kernel_rfl
theorem JR : Tryd.prog.built 82 [(0,fn9 52),(1,fn9 52),(2,fn9 52),(3,fn9 53),(4,fn9 54),(5,fn9 55),(6,fn9 52),(7,fn9 56),(8,fn9 57),(9,fn9 58)] = some deedL.toArray:=by kernel_rfl
theorem X1 : (Tryd.prog.info? 81).map (·.size) = some 1:=by kernel_rfl
theorem XY : ∀ u ∈ deedL,u.oneCell' = true:=by
  intro u hu
  simp only [deedL,List.mem_cons,List.not_mem_nil,or_false] at hu
  rcases hu with rfl | rfl | rfl | rfl | rfl | rfl | rfl | rfl | rfl | rfl <;> rfl
set_option maxRecDepth 100000 in
set_option maxHeartbeats 1600000 in
theorem X5 (w : World) : Calls Tryd.prog 35 #[] w fun e w' => e = .returned (.agg deedL.toArray) ∧ Below w.heap.size w w':=by
  go_enter Tryd.func35,Tryd.ntmps35
  go_wp2_with (first
    | ((with_reducible show Sl 0);go_must (refine j7 rfl 82 rfl _ Q7 ?_);intro g1 w1 hg1 hk1 hw1;have HK1:=kp hk1;have HW1:=kp hw1;have hs1:=hw1.size;clear hk1 hw1)
    | ((with_reducible show Sl 1);go_must (refine q8 rfl 82 _ rfl [(0,fn9 52),(1,fn9 52),(2,fn9 52),(3,fn9 53),(4,fn9 54),(5,fn9 55),(6,fn9 52),(7,fn9 56),(8,fn9 57),(9,fn9 58)] (by simp [Act.eval,fn9]) deedL JR ?_))
    | ((with_reducible show Sn);go_must (refine j5 rfl 82 (.tmp 0) (.tmp 1) rfl g1 deedL rfl rfl _ _ HK1.out vT rfl XY ?_);intro w3 hk3 hg3 hs3;have HK3:=kp hk3;have HW3:=kp (HW1.out.grown hg3 hs1 (fun k e => by cases e;omega));clear hk3 hg3)
    | ((with_reducible show bodyPost _ _ _ _ _ _);exact bodyPost_ret (lL (P:=Tryd.prog) (fn:=Tryd.f35) rfl _ _ g1 82 _ _ rfl HK3.out Tryd.underlying82 rfl vT) rfl ⟨rfl,HW3.out⟩))
theorem Mine.away2 {w w' : World} {B B' g : Nat} {q : Pc} (h : Mine w B q) (hg : w.grownBy w' (some g)) (hB : g < B) (hB' : B' ≤ B) : Mine w' B' q :=
  ⟨(h.row.far hg (by
    cases hv : (Value.slice q.A q.len q.cap).ownBlock with
    | none => exact .inl rfl
    | some b => exact .inr fun e => by have:=(h.row.block b hv).1;cases e;omega)).less hB',⟨fun k x hx => ((h.fam.own k x hx).far hg (by
    cases hv : (svV x).ownBlock with
    | none => exact .inl rfl
    | some b => exact .inr fun e => by have:=((h.fam.own k x hx).block b hv).1;cases e;omega)).less hB',h.fam.out,h.fam.apart⟩⟩
theorem Mine.ok {w : World} {B : Nat} {q : Pc} (h : Mine w B q) : q.Ok w w.heap.size :=
  ⟨h.row.recs,h.row.len_is.2.1,h.row.len_is.2.2,fun x hx => by
    obtain ⟨k,hk⟩:=List.mem_iff_getElem?.1 hx
    have ho:=h.fam.own k x.sv (by rw [List.getElem?_map,hk];rfl)
    exact ⟨ho.recs,ho.len_is.2.1,ho.len_is.2.2⟩⟩
theorem Mine.less {w : World} {B B' : Nat} {q : Pc} (h : Mine w B q) (hB : B' ≤ B) : Mine w B' q:=⟨h.row.less hB,⟨fun k x hx => (h.fam.own k x hx).less hB,h.fam.out,h.fam.apart⟩⟩
theorem Mine.below {w w' : World} {B C : Nat} {q : Pc} (h : Mine w B q) (hb : Below C w w') (hC : w.heap.size ≤ C) : Mine w' B q:=⟨h.row.below hb hC,h.fam.below hb hC⟩
theorem St.mine {w : World} {B gN gU : Nat} {q : Pc} (h : St w B gN gU q) : Mine w B q:=⟨h.row,h.fam.less fun _ hb => .inl (.inr (.inr hb))⟩
def Fact.turn (gN k : Nat) (way : Bool) (x : Nd) (K : Nat) : Fact :=
  ⟨fun v W => ∃ g,v = .pointer (some ⟨g,0,none⟩) ∧ Blk W g 87 [.pointer (some ⟨gN,0,none⟩),.int .i64 (k : Int),.bool way,.int .i64 x.kind,.int .i64 x.arg,.int .i64 x.next,.int .i64 x.alt] ∧ K ≤ g,fun _ _ _ hb ⟨g,h1,h2,h3⟩ => ⟨g,h1,h2.below hb h2.lt,h3⟩⟩
set_option maxRecDepth 100000 in
set_option maxHeartbeats 8000000 in
theorem J5 (B : Nat) (p : Pg) (hf : Fine p) (q : Pc) (w : World) (hp : p.Ok w B) (hq : q.Ok w B) (hg : M.Good p q.cf) (hB : B ≤ w.heap.size) (t : Int) (ht : I64 t) (way : Bool) (hen : M.enabled p q.cf t = false) :
    Calls Tryd.prog 18 #[pcA q,pgA p,.agg #[.int .i64 t,.bool way]] w fun e w' => ∃ q',e = .returned (pcA q') ∧ Mine w' w.heap.size q' ∧ q'.cf = M.step p q.cf t way ∧ Below w.heap.size w w':=by
  have h8 : q.len ≤ 8:=by rw [← hq.len];exact hg.most
  have h0q : 0 < q.len:=by rw [← hq.len];exact hg.one
  have HOw:=kp hg.owns
  have HQ17:=kp (lE hg.owns)
  have HStk : Kept (∀ x ∈ q.tvs,x.sv.len ≤ 1000):=kp (fun x hx => by
    have h1:=M.high hf hp.row.len hg (x:=tvT x) (List.mem_map_of_mem hx)
    have h2:=hf.counts.f
    have h3 : (tvT x).stack.length = x.sv.len:=(hq.svs x hx).row.len
    omega)
  have HP:=kp hp;have HQ:=kp hq;have HG:=kp hg;have HFine:=kp hf;have HT:=kp ht;have HEn:=kp hen
  have HStep : Kept (M.step p q.cf t way = q.cf):=kp (M.step_same hen)
  clear hp hq hg hf ht hen
  rw [qO,jN]
  go_enter Tryd.func18,Tryd.ntmps18
  go_wp2_with (first
    | ((with_reducible refine j4 rfl 47 (.tmp 0) rfl (pcC q) rfl ?_);intro g1 w1 hg1 hk1 hw1;have HK1:=kp hk1;have HW1:=kp hw1;have hs1:=hw1.size;have hl1:=hk1.lt;clear hk1 hw1)
    | ((with_reducible refine j4 rfl 24 (.tmp 1) rfl (pgC p) rfl ?_);intro g2 w2 hg2 hk2 hw2;have HK12:=kp (HK1.out.below hw2 hl1);have HK2:=kp hk2;have HW2:=kp (HW1.out.trans (hw2.mono hs1));have hs2:=HW2.out.size;have hl12:=HK12.out.lt;have hl2:=hk2.lt;clear hk2 hw2)
    | ((with_reducible refine j4 rfl 53 (.tmp 2) rfl [.int .i64 t,.bool way] rfl ?_);intro g3 w3 hg3 hk3 hw3;have HK13:=kp (HK12.out.below hw3 hl12);have HK23:=kp (HK2.out.below hw3 hl2);have HK3:=kp hk3;have HW3:=kp (HW2.out.trans (hw3.mono hs2));have hs3:=HW3.out.size;have hl13:=HK13.out.lt;have hl23:=HK23.out.lt;have hl3:=hk3.lt;clear hk3 hw3)
    | ((with_reducible show Sl 6);go_must (refine j7 rfl 47 rfl _ jX ?_);intro g4 w4 hg4 hk4 hw4
       have HA1:=kp (HK13.out.below hw4 hl13);have HA2:=kp (HK23.out.below hw4 hl23);have HA3:=kp (HK3.out.below hw4 hl3);have HA4:=kp hk4;have HW4:=kp (HW3.out.trans (hw4.mono hs3));have hs4:=HW4.out.size
       have ha1:=HA1.out.lt;have ha2:=HA2.out.lt;have ha3:=HA3.out.lt;have ha4:=hk4.lt
       have HQ4:=kp ((HQ.out.below (HW4.out.mono hB)).more (show B ≤ w4.heap.size by omega))
       have hwg4 : w.heap.size ≤ g4:=by omega
       clear hk4 hw4)
    | ((with_reducible show Sl 10);go_must (refine j6 rfl 47 (.tmp 3) rfl g1 rfl _ (pcC q) _ HA1.out Tryd.underlying47 rfl (by rw [HQ17.out];exact j9) ?_))
    | (go_at_call 34;go_must (refine (vF q w4 HQ4.out h8 h0q HOw.out HStk.out).mono ?_);rintro e w5 ⟨q',rfl,hmine,hcf,hqln,hqow,hb5⟩
       have HMi:=kp hmine;have HCfq:=kp hcf;have HQow:=kp hqow;have HL5:=kp hb5;have hs5:=hb5.size
       have HQ17' : Kept ((pcC q').length = 17):=kp (lE (by rw [hqow];exact HOw.out))
       have HQln:=kp hqln
       clear hmine hcf hqow hqln hb5)
    | ((with_reducible show Sl 7);go_must (refine j7 rfl 47 rfl _ jX ?_);intro gN w6 hgN hk6 hw6;have HKN6:=kp hk6;have HM6:=kp hw6;have HL6:=kp (HL5.out.trans (hw6.mono hs5));have hs56:=hw6.size;clear hk6 hw6)
    | ((with_reducible show Sn);(refine j5 rfl 47 (.tmp 7) (.tmp 11) rfl gN (pcC q') rfl rfl _ _ HKN6.out (by rw [HQ17'.out];exact j9) (by rw [HQ17'.out];rfl) (jM q') ?_);intro w7 hk7 hg7 hs7
       have HKN7:=kp hk7;have HM7:=kp (HM6.out.grown hg7 hs56 (fun k e => by cases e;exact hgN));have HL7:=kp (HL6.out.grown hg7 (by omega) (fun k e => by cases e;omega));have hs47:=HL7.out.size
       have hp3:=(HA3.out.below HL7.out ha3).cell 0
       have HW7:=kp (HW4.out.trans (HL7.out.mono hs4))
       have HB7:=kp (HA1.out.below HL7.out ha1);have HB72:=kp (HA2.out.below HL7.out ha2)
       simp only [List.getElem?_cons_zero] at hp3
       clear hk7 hg7 hs7)
    | ((with_reducible show Sl 12);go_must (refine j6 rfl 47 (.tmp 3) rfl g1 rfl _ (pcC q) _ HB7.out Tryd.underlying47 rfl (by rw [HQ17.out];exact j9) ?_))
    | ((with_reducible show Sl 13);go_must (refine j6 rfl 24 (.tmp 4) rfl g2 rfl _ (pgC p) _ HB72.out Tryd.underlying24 rfl jH ?_))
    | (go_at_call 19;go_must (refine (xP B p HFine.out q w7 (HP.out.below (HW7.out.mono hB)) (HQ.out.below (HW7.out.mono hB)) HG.out (by have:=HW7.out.size;omega) t HT.out false HEn.out).mono ?_);rintro e w8 ⟨rfl,hb8⟩
       have HM8:=kp (HM7.out.trans (hb8.mono HM7.out.size));have HL8:=kp (HL7.out.trans (hb8.mono hs47));have HKN8:=kp (HKN7.out.below hb8 HKN7.out.lt);have hs48:=HL8.out.size;have hs58:=HM8.out.size
       have HW8:=kp (HW4.out.trans (HL8.out.mono hs4))
       have HC8:=kp (HA1.out.below HL8.out ha1);have HC82:=kp (HA2.out.below HL8.out ha2);have HC84:=kp (HA4.out.below HL8.out ha4)
       have hp8:=(HA3.out.below HL8.out ha3).cell 0
       simp only [List.getElem?_cons_zero] at hp8
       have hgN8:=HKN8.out.lt
       clear hb8 hp3)
    | ((with_reducible show Sl 34);go_must (refine j6 rfl 47 (.tmp 7) rfl gN rfl _ (pcC q') _ HKN8.out Tryd.underlying47 rfl (by rw [HQ17'.out];exact j9) ?_))
    | ((with_reducible show Sn);(refine j5 rfl 47 (.tmp 6) (.tmp 34) rfl g4 (pcC q') rfl rfl _ _ HC84.out (by rw [HQ17'.out];exact j9) (by rw [HQ17'.out];rfl) (jM q') ?_);intro we hke hge hse
       have HKe:=kp hke;have HOk:=kp ((HMi.out.below HM8.out (Nat.le_refl _)).away2 hge ha4 HW4.out.size);have HWe:=kp (HW8.out.grown hge HW8.out.size (fun k e => by cases e;exact hwg4))
       clear hke hge hse)
    | ((with_reducible show bodyPost _ _ _ _ _ _);exact bodyPost_ret (lL (P:=Tryd.prog) (fn:=Tryd.f18) rfl _ _ g4 47 _ _ rfl HKe.out Tryd.underlying47 rfl (by rw [HQ17'.out];exact j9)) rfl ⟨q',rfl,HOk.out,by rw [HCfq.out,HStep.out],HWe.out⟩))
end Go.Proofs.YtfiafbflhglpeaaDoor
