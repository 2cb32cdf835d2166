/- The document's Find, walked. -/
import Derived.Test.YtnaomfmmkhgbhaaPk20
import Derived.Test.YtnaomfmmkhgbhaaSeekP7
import Derived.Test.YtnaomfmmkhgbhaaPk10
namespace Go.Proofs.Ytnaomfmmkhgbhaa
open Go.RowKit
theorem zD : (Try.prog.info? 79).map (fun i => (i.zero.map (·.cells.size),i.size)) = some (some 18,18):=by kernel_rfl
theorem zZ : (Try.prog.info? 79).map (fun i => (i.zero,i.size,i.bytes)) = some (some (.agg (Value.slice none 0 0 :: .slice none 0 0 :: zeros 16).toArray),18,176):=by kernel_rfl
theorem zH : (Try.prog.info? 27).map (fun i => (i.zero.map (·.cells.size),i.size)) = some (some 1,1):=by kernel_rfl
theorem vF : (Try.prog.info? 27).map (fun i => (i.zero,i.size,i.bytes)) = some (some (.slice none 0 0),1,24):=by kernel_rfl
theorem yB {P : Program} {ops : Array Oper} {rest : List Oper} {o : Oper} {a : Act} {w : World} {Q : Exit → Act → World → Prop} (hgd : o.guard = none) (ty : TypeId) (x : Operand) (f : Nat) (ho : o.op = .field ty x f)
    (fs : Array Field) (hu : P.underlying ty = some (.struct fs)) (fd : Field) (hf : fs[f]? = some fd) (d : TypeDesc) (hd : P.underlying fd.type = some d) (hna : (match d with | .struct _ | .array _ _ => false | _ => true) = true)
    (cs : List Value) (hx : a.eval x = .agg cs.toArray) (v : Value) (hv : cs[fd.offset]? = some v)
    (h : wpList P ops Q rest (a.put o.dst v) w) : wpList P ops Q (o :: rest) a w:=by
  refine wpList_plain hgd fun K hK => ?_
  have hagg : (isAgg fd.type).run P w = .ok false w:=by
    unfold isAgg
    rw [Sem.run_bind,run_underlying hd w]
    cases d <;> simp_all
  unfold Oper.wp
  simp [execOp,ho,Instr.field,asAgg,hx,run_underlying hu,hf,part,hagg,hv,Result.andThen]
  exact hK _ _ h
def Fact.races (p : Pg) (c : M.Cf) : Fact :=
  ⟨fun v _ => ∃ (x y z h : Int),v = .tuple #[.int .i64 x,.int .i64 y,.int .i64 z,.int .i64 h] ∧ M.FirstIs p c x y z h,fun _ _ _ _ h => h⟩
def Fact.raced (p : Pg) (c : M.Cf) : Fact :=
  ⟨fun v _ => ∃ (x y z h : Int),v = .int .i64 h ∧ M.FirstIs p c x y z h,fun _ _ _ _ h => h⟩
def Fact.whatever : Fact:=⟨fun _ _ => True,fun _ _ _ _ h => h⟩
def Fact.rconf (K : Nat) : Fact :=
  ⟨fun v W => ∃ g,v = .pointer (some ⟨g,0,none⟩) ∧ Blk W g 79 (Value.slice none 0 0 :: .slice none 0 0 :: zeros 16) ∧ K ≤ g,fun _ _ _ hb ⟨g,h1,h2,h3⟩ => ⟨g,h1,h2.below hb h2.lt,h3⟩⟩
def Fact.picks (K : Nat) (n : Nat) (l : List (Int × Bool)) : Fact :=
  ⟨fun v W => ∃ g c,v = .slice (some ⟨g,0,none⟩) n c ∧ OwnR 2 pkV W K 51 v l,fun _ _ _ hb ⟨g,c,h1,h2⟩ => ⟨g,c,h1,h2.below hb (Nat.le_refl _)⟩⟩
def Fact.empty12 (K : Nat) : Fact :=
  ⟨fun v W => ∃ g,v = .slice (some ⟨g,0,none⟩) 0 0 ∧ OwnR 2 pkV W K 51 v ([] : List (Int × Bool)),fun _ _ _ hb ⟨g,h1,h2⟩ => ⟨g,h1,h2.below hb (Nat.le_refl _)⟩⟩
def K.ways (p : Pg) (most : Int) (i : Nat) (e : K.En) (s : K.Sk) (t : Nat) : Nat → K.Sk
  | 0 => s
  | j + 1 => K.put most (K.ways p most i e s t j) (K.next p i e t (decide ((j : Int) = 1)))
theorem K.one_ways {p : Pg} {most : Int} {i : Nat} {e : K.En} {s : K.Sk} {t : Nat} (h : M.enabledN p e.cf t = true) : K.one p most i e s t = K.ways p most i e s t (if (M.node p e.cf t).kind = 8 then 2 else 1):=by
  unfold K.one
  rw [if_pos h]
  by_cases h8 : (M.node p e.cf t).kind = 8
  · rw [if_pos h8,if_pos h8];rfl
  · rw [if_neg h8,if_neg h8];rfl
theorem K.has_more {l : List K.En} {k : Nat} {e : K.En} (he : l[k]? = some e) (c : M.Cf) : K.has (l.take (k + 1)) c = (K.has (l.take k) c || decide (e.cf = c)):=by
  unfold K.has
  rw [List.take_add_one,he,List.any_append]
  simp
section
variable {w : World} {B : Nat} {r : Rr} {cs : List Rc} {ps : List Ps} {s : K.Sk}
theorem RkM.opens (h : RkM w B r s cs ps) {i : Nat} {e : K.En} (he : s.all[i]? = some e) : ∃ gA off gP offP q x,r.AA = some ⟨gA,off,none⟩ ∧ r.PA = some ⟨gP,offP,none⟩ ∧ OwnT 18 rcV w B 79 (some ⟨gA,off,none⟩) r.an r.ac cs ∧ OwnT 1 psV w B 27 (some ⟨gP,offP,none⟩) r.pn r.pc ps ∧
    cs[i]? = some q ∧ q.cf = e.cf ∧ RMine w B q ∧ q.ow.length = 16 ∧ ps[i]? = some x ∧ x.l = e.path ∧ OwnT 2 pkV w B 51 x.A x.n x.cap x.l:=by
  obtain ⟨q,x,h1,h2,h3,h4,h5,h6,h7⟩:=h.at he
  have hl:=h.lens
  have hi:=(List.getElem?_eq_some_iff.1 he).1
  obtain ⟨gA,off,hA⟩ : ∃ g off,r.AA = some ⟨g,off,none⟩:=by
    rcases h.pt.all.2.2.2 with ⟨_,h0⟩ | ⟨g,o,cur,h1,_⟩
    · have:=h.pt.all.2.1;omega
    · exact ⟨g,o,h1⟩
  obtain ⟨gP,offP,hP⟩ : ∃ g off,r.PA = some ⟨g,off,none⟩:=by
    rcases h.pt.paths.2.2.2 with ⟨_,h0⟩ | ⟨g,o,cur,h1,_⟩
    · have:=h.pt.paths.2.1;omega
    · exact ⟨g,o,h1⟩
  exact ⟨gA,off,gP,offP,q,x,hA,hP,hA ▸ h.pt.all,hP ▸ h.pt.paths,h1,h2,h3,h4,h5,h6,h7⟩
end
def FindR (p : Pg) (most : Int) (w : World) : Ending → World → Prop:=fun e w' => ∃ (A : Option Addr) (n cap : Nat) (l : List (Int × Bool)) (is : Nat),e = .returned (.tuple #[.slice A n cap,.int .i64 (is : Int)]) ∧ OwnT 2 pkV w' w.heap.size 51 A n cap l ∧ n ≤ 5000 ∧ K.Out p most l is ∧ Below w.heap.size w w'
set_option maxRecDepth 1000000 in
set_option maxHeartbeats 8000000 in
theorem rk_find (B0 : Nat) (p : Pg) (hf : Fine p) (most : Int) (hmost : most ≤ 5000 ∧ -9223372036854775808 ≤ most) (w : World) (hp : p.Ok w B0) (hB0 : B0 ≤ w.heap.size) :
    Calls Try.prog 12 #[pgA p,.int .i64 most] w (FindR p most w):=by
  unfold FindR
  have HP:=kp hp;have HF:=kp hf
  have HL : Kept (p.fns.length = p.len):=kp hp.row.len
  clear hp hf
  rw [jI]
  go_enter Try.func12,Try.ntmps12
  by_cases hm1 : most < 1
  · go_wp2_with (first
      | ((with_reducible refine j2 rfl 24 (.tmp 0) rfl (pgC p) rfl ?_);intro g2 w1 hg2 hk1 hw1;have HK1:=kp hk1;have HW1:=kp hw1;have hs1:=hw1.size;have hl1:=hk1.lt;clear hk1 hw1))
    go_loopw [6,7,8,9] (fun v6 v7 v8 v9 wr => v6 = .slice none 0 0 ∧ v7 = .slice none 0 0 ∧ v8 = .bool true ∧ v9 = .int .i64 0 ∧ wr = w1) (fun _ _ _ _ _ => 0)
    case atStart => exact ⟨rfl,rfl,rfl,rfl,rfl⟩
    case round =>
      obtain ⟨rfl,rfl,rfl,rfl,rfl⟩:=hrel
      have HOut : Kept (K.Out p most [] 0):=kp ⟨0,fun j hj => by omega,.inr (by
        rcases K.begin_cases most with ⟨h,_⟩ | ⟨_,h⟩
        · rw [show K.st p most 0 = K.begin most from rfl,h];exact ⟨Nat.le_refl _,rfl,rfl⟩
        · omega)⟩
      go_wp2
      (try simp only [Exit.inBlock,Exit.then])
      refine bodyPost_ret (results_tmp2 rfl _ _ _) rfl ?_
      exact ⟨none,0,0,[],0,rfl,OwnT.nil _ _ _ _ _,by omega,HOut.out,HW1.out⟩
  · have hm2 : 1 ≤ most:=by omega
    have HSt0 : Kept (K.st p most 0 = ⟨[⟨M.start,0,0,false,[]⟩],false⟩):=kp (by
      rcases K.begin_cases most with ⟨_,h⟩ | ⟨h,_⟩
      · omega
      · exact h)
    go_wp2_with (first
      | ((with_reducible refine j2 rfl 24 (.tmp 0) rfl (pgC p) rfl ?_);intro g2 w1 hg2 hk1 hw1;have HK1:=kp hk1;have HW1:=kp hw1;have hs1:=hw1.size;have hl1:=hk1.lt;clear hk1 hw1)
      | (go_at_call 26;go_must (refine (rs_start w1).mono ?_);rintro e w2 ⟨q0,rfl,hm2,hcf2,hw2⟩;have HQ2:=kp (hm2.lessR hs1);have HCf0:=kp hcf2;have HW2:=kp hw2;have hs2:=hw2.size;have H160 : Kept (q0.ow.length = 16):=kp (by have h : q0.cf.owners = M.start.owners:=congrArg _ hcf2;have h2 : q0.ow = M.start.owners:=h;rw [h2];rfl);clear hm2 hcf2 hw2)
      | ((with_reducible show Sl 27);go_must (refine j8 rfl 74 79 (.tmp 26) rfl 18 Try.underlying74 zD (by decide) (by decide) (.agg (rcC q0).toArray) (rcC q0) rfl rfl (jJ H160.out) ?_);intro g3 w3 hg3 hk3 hb3;have HK3:=kp hk3;have HW3:=kp (HW2.out.trans (hb3.mono hs2));have HQ3:=kp (HQ2.out.below hb3 (Nat.le_refl _));have hs3:=HW3.out.size;clear hk3 hb3)
      | (at_builtin;(with_reducible show Sl 28);go_must (refine jS rfl (.tmp 25) (.tmp 27) 74 rfl Try.underlying74 zZ rfl QK rfl (OwnT.nil 18 rcV w3 w.heap.size 79) q0 ⟨g3,0,none⟩ 1 rfl (fun j hj => by rw [Addr.add_mid,Nat.zero_add,HK3.out.cell];exact QL H160.out hj) (by unfold maxLen;omega) (by omega) (by omega) ?_);intro A4 c4 w4 hown4 hgr4;obtain ⟨hp4,hs4r,hq4⟩:=(RkP.new w3 w.heap.size).alled hgr4 hown4 (fun q hq => by rw [List.nil_append] at hq;rw [List.mem_singleton.1 hq];exact ⟨HQ3.out,H160.out⟩);have HP4:=kp hp4;have HS4:=kp ((RkS.below (r:=⟨none,0,0,none,0,0⟩) HW3.out (Nat.le_refl _)).trans hs4r);have hs4:=hs4r.1.size;clear hown4 hgr4 hp4 hs4r hq4)
      | ((with_reducible show Sl 30);go_must (refine j8 rfl 75 27 (.const (.slice none 0 0)) rfl 1 Try.underlying75 zH (by decide) (by decide) (.slice none 0 0) [.slice none 0 0] rfl rfl rfl ?_);intro g5 w5 hg5 hk5 hb5;have HK5:=kp hk5;have HP5:=kp (HP4.out.below hb5 (Nat.le_refl _));have HS5:=kp (HS4.out.trans (RkS.below hb5 (Nat.le_refl _)));have hs5:=hb5.size;clear hk5 hb5)
      | (at_builtin;(with_reducible show Sl 31);go_must (refine jS rfl (.tmp 29) (.tmp 30) 75 rfl Try.underlying75 vF rfl QN rfl HP5.out.paths ⟨none,0,0,[]⟩ ⟨g5,0,none⟩ 1 rfl (fun j hj => by rw [Addr.add_mid,Nat.zero_add,HK5.out.cell,show j = 0 by omega];rfl) (by unfold maxLen;omega) (by omega) (by omega) ?_);intro A6 c6 w6 hown6 hgr6;obtain ⟨hp6,hs6r⟩:=HP5.out.pathed hgr6 hown6 (fun x hx => by rw [List.nil_append] at hx;rw [List.mem_singleton.1 hx];exact OwnT.nil _ _ _ _ _);have HP6:=kp hp6;have HS6:=kp (HS5.out.trans hs6r);clear hown6 hgr6 hp6 hs6r))
    obtain ⟨r0,hr0⟩ : ∃ y : Rr,y = ⟨none,0,0,none,0,0⟩:=⟨_,rfl⟩
    obtain ⟨r6,hr6⟩ : ∃ y : Rr,y = ⟨A4,0 + 1,c4,A6,0 + 1,c6⟩:=⟨_,rfl⟩
    have HR6 : Kept (r6.AA = A4 ∧ r6.an = 1 ∧ r6.ac = c4 ∧ r6.PA = A6 ∧ r6.pn = 1 ∧ r6.pc = c6):=kp (by rw [hr6];exact ⟨rfl,rfl,rfl,rfl,rfl,rfl⟩)
    have HM6 : Kept (RkM w6 w.heap.size r6 (K.st p most 0) [q0] [⟨none,0,0,[]⟩]):=kp ⟨by rw [hr6];exact HP6.out,by rw [HSt0.out,List.map_singleton,HCf0.out];rfl,by rw [HSt0.out];rfl⟩
    have HS60 : Kept (RkS w1 w6 r0 r6):=kp (by rw [hr0,hr6];exact HS6.out)
    have HN1 : Kept (¬ RkT r0 g2):=kp (by rw [hr0];intro h;rcases h with h | h <;> cases h)
    have HR1 : Kept (RkP w1 w.heap.size r0 [] []):=kp (by rw [hr0];exact RkP.new _ _)
    clear hr0 hr6 HP6 HS6 HP5 HS5 HP4 HS4
    go_loopw [6,7,8,9] (fun v6 v7 v8 v9 wr => ∃ (i : Nat) (r : Rr) (cs : List Rc) (ps : List Ps),i ≤ (K.st p most i).all.length ∧ v6 = .slice r.AA r.an r.ac ∧ v7 = .slice r.PA r.pn r.pc ∧ v8 = .bool (K.st p most i).left ∧ v9 = .int .i64 (i : Int) ∧ RkM wr w.heap.size r (K.st p most i) cs ps ∧ RkS w1 wr r0 r ∧ (∀ j,j < i → j < (K.st p most j).all.length ∧ ¬ K.Racy p (K.en p most j).cf)) (fun _ _ _ v9 _ => 5000 - (intOf v9).toNat)
    case atStart => exact ⟨0,r6,_,_,by omega,by rw [HR6.out.1,HR6.out.2.1,HR6.out.2.2.1],by rw [HR6.out.2.2.2.1,HR6.out.2.2.2.2.1,HR6.out.2.2.2.2.2],by rw [HSt0.out],rfl,HM6.out,HS60.out,fun j hj => by omega⟩
    case round =>
      clear HM6 HS60 HR6 HSt0
      obtain ⟨i,r,cs,ps,hi,rfl,rfl,rfl,rfl,hm,hs,hall⟩:=hrel
      have HM:=kp hm;have HS:=kp hs;have HAll:=kp hall
      have hln:=HM.out.lens
      have hlm : (K.st p most i).all.length ≤ 5000:=by
        rcases K.st_len HF.out HL.out most i with h | h <;> omega
      clear hm hs hall
      have HB_:=kp (HS.out.under HR1.out HW1.out hs1)
      have HBr:=kp HB_.out
      have hsr:=HBr.out.size
      obtain ⟨hk2,hn2⟩:=HS.out.box HK1.out HN1.out
      have HK2:=kp hk2;have HN2:=kp hn2
      have h2r:=hk2.lt
      clear hk2 hn2
      by_cases hlt : (i : Int) < (r.an : Int)
      · have hil : i < (K.st p most i).all.length:=by omega
        have HEi : Kept ((K.st p most i).all[i]? = some (K.en p most i)):=kp (K.en_at hil)
        have HInv:=kp (K.inv_st HF.out HL.out most i)
        obtain ⟨gA,off,gP,offP,q,pk,hAA,hPA,hA,hPp,hqi,hqcf,hqm,h16,hpi,hpl,hpo⟩:=HM.out.opens HEi.out
        rw [hAA,hPA]
        have HA:=kp hA;have HPp:=kp hPp;have HQi:=kp hqi;have HQcf:=kp hqcf;have HQm:=kp hqm;have H16:=kp h16;have HPi:=kp hpi;have HPl:=kp hpl;have HPo:=kp hpo;have HAA:=kp hAA;have HPA:=kp hPA
        have HG : Kept (M.Good p q.cf):=kp (by rw [hqcf];exact HInv.out.good _ (List.mem_of_getElem? HEi.out))
        have hgA : gA < wr.heap.size:=by have h:=(HM.out.pt.lt (.inl (show (Value.slice r.AA r.an r.ac).ownBlock = some gA by rw [hAA];rfl))).2;exact h
        have hgP : gP < wr.heap.size:=by have h:=(HM.out.pt.lt (.inr (show (Value.slice r.PA r.pn r.pc).ownBlock = some gP by rw [hPA];rfl))).2;exact h
        clear hA hPp hqi hqcf hqm h16 hpi hpl hpo hAA hPA
        go_wp2
        apply lN (.is (pgA p) :: .is _ :: .is _ :: .is (.pointer (some ⟨gA,off + i * 18,none⟩)) :: .is (rcA q) :: Fact.races p q.cf :: Fact.races p q.cf :: Fact.whatever :: Fact.whatever :: Fact.whatever :: Fact.raced p q.cf :: Fact.whatever :: Fact.whatever :: Fact.whatever :: Fact.raced p q.cf :: [])
          [[],[],[],[(1,40),(2,41)],[(3,42)],[(0,39),(4,43)],[(5,44)],[(6,38)],[(6,38)],[(6,38)],[(6,38)],[(7,45)],[(8,46)],[(9,47)],[(10,48)]]
          [(0,39),(1,40),(2,41),(3,42),(4,43),(5,44),(6,38),(7,45),(8,46),(9,47),(10,48),(11,10),(12,11),(13,12),(14,13)] (by kernel_rfl) (by kernel_rfl)
        case hob =>
          refine ⟨?o0,?o1,?o2,?o3,?o4,?o5,?o6,?o7,?o8,?o9,?o10,?o11,?o12,?o13,?o14,trivial⟩
          case o0 =>
            intro W hW;change wpList _ _ _ _ _ _
            go_must (refine j1 rfl 24 (.tmp 2) rfl g2 rfl _ (pgC p) _ (HK2.out.below hW h2r) Try.underlying24 rfl jD ?_)
            go_wp2;exact j0 rfl rfl rfl
          case o1 => intro W hW;change wpList _ _ _ _ _ _;go_wp2;exact j0 rfl rfl rfl
          case o2 => intro W hW;change wpList _ _ _ _ _ _;go_wp2;exact j0 rfl rfl rfl
          case o3 => intro W hW;rintro _ rfl;rintro _ rfl;change wpList _ _ _ _ _ _;go_wp2;exact j0 rfl rfl rfl
          case o4 =>
            intro W hW;rintro _ rfl;change wpList _ _ _ _ _ _
            go_must (refine jM rfl 79 (.tmp 42) rfl ⟨gA,off + i * 18,none⟩ rfl (rcC q) _ ((HA.out.below hW (Nat.le_refl _)).rcAt HQi.out H16.out) Try.underlying79 rfl (by rw [jJ H16.out];exact j5) ?_)
            go_wp2;exact j0 rfl rfl rfl
          case o5 =>
            intro W hW;rintro _ rfl;rintro _ rfl;change wpList _ _ _ _ _ _
            have hsW:=hW.size
            go_wp2_with fail
            refine (ra_first W.heap.size p HF.out q W (lD (HP.out.below (HBr.out.trans (hW.mono hsr) |>.mono hB0)) (by omega)) ((HQm.out.below hW (Nat.le_refl _)).ok) HG.out (Nat.le_refl _)).mono ?_
            rintro e9 w9 ⟨x9,y9,z9,h9,rfl,hf9,hb9⟩
            have HB9:=kp hb9;have HF9:=kp hf9;clear hb9 hf9
            go_wp2
            exact jB rfl rfl rfl HB9.out ⟨x9,y9,z9,h9,rfl,HF9.out⟩
          case o6 =>
            intro W hW;rintro _ ⟨x5,y5,z5,h5,rfl,hf5⟩;change wpList _ _ _ _ _ _
            go_wp2;exact jB rfl rfl rfl (Below.refl _ _) ⟨x5,y5,z5,h5,rfl,hf5⟩
          case o7 =>
            intro W hW;rintro _ ⟨x6,y6,z6,h6,rfl,hf6⟩;change wpList _ _ _ _ _ _
            go_wp2;exact jB rfl rfl rfl (Below.refl _ _) trivial
          case o8 =>
            intro W hW;rintro _ ⟨x6,y6,z6,h6,rfl,hf6⟩;change wpList _ _ _ _ _ _
            go_wp2;exact jB rfl rfl rfl (Below.refl _ _) trivial
          case o9 =>
            intro W hW;rintro _ ⟨x6,y6,z6,h6,rfl,hf6⟩;change wpList _ _ _ _ _ _
            go_wp2;exact jB rfl rfl rfl (Below.refl _ _) trivial
          case o10 =>
            intro W hW;rintro _ ⟨x6,y6,z6,h6,rfl,hf6⟩;change wpList _ _ _ _ _ _
            go_wp2;exact jB rfl rfl rfl (Below.refl _ _) ⟨x6,y6,z6,h6,rfl,hf6⟩
          case o11 =>
            intro W hW;intro v7 _;change wpList _ _ _ _ _ _
            go_wp2;exact jB rfl rfl rfl (Below.refl _ _) trivial
          case o12 =>
            intro W hW;intro v8 _;change wpList _ _ _ _ _ _
            go_wp2;exact jB rfl rfl rfl (Below.refl _ _) trivial
          case o13 =>
            intro W hW;intro v9 _;change wpList _ _ _ _ _ _
            go_wp2;exact jB rfl rfl rfl (Below.refl _ _) trivial
          case o14 =>
            intro W hW;rintro _ ⟨x10,y10,z10,h10,rfl,hf10⟩;change wpList _ _ _ _ _ _
            go_wp2;exact jB rfl rfl rfl (Below.refl _ _) ⟨x10,y10,z10,h10,rfl,hf10⟩
        case hend =>
          intro W hW;rintro _ rfl;rintro _ rfl;rintro _ rfl;rintro _ rfl;rintro _ rfl;rintro _ ⟨x5,y5,z5,h5,rfl,hf5⟩;rintro _ ⟨x6,y6,z6,h6,rfl,hf6⟩;intro v7 _;intro v8 _;intro v9 _;rintro _ ⟨x10,y10,z10,h10,rfl,hf10⟩;intro v11 _;intro v12 _;intro v13 _;rintro _ ⟨x14,y14,z14,h14,rfl,hf14⟩
          simp only [given,jF,List.set]
          have HMw:=kp (HM.out.below hW (Nat.le_refl _));have HSw:=kp (HS.out.trans (RkS.below (r:=r) hW (Nat.le_refl _)));have HPpw:=kp (HPp.out.below hW (Nat.le_refl _));have HPow:=kp (HPo.out.below hW (Nat.le_refl _));have HBw:=kp (HBr.out.trans (hW.mono hsr))
          have HF14:=kp hf14
          obtain ⟨wq,hwq⟩ : ∃ y,y = W:=⟨_,rfl⟩
          subst hwq
          clear hW hf5 hf6 hf10 hf14
          by_cases hr : h14 = 1
          · have HR : Kept (K.Racy p (K.en p most i).cf):=kp (by rw [← HQcf.out];exact (K.racy_of HF14.out).1 hr)
            have hcP : wq.cell? ⟨gP,offP + i,none⟩ = some (.slice pk.A pk.n pk.cap):=by have h:=HPpw.out.cellAt HPi.out (show 0 < 1 by omega);rw [Nat.mul_one] at h;exact h
            have hin : (i : Int) < (r.pn : Int):=by omega
            have HLenP:=kp (K.path_len HInv.out (i + 1) i _ (by omega) HEi.out)
            subst hr
            go_wp2
            (try simp only [Exit.inBlock,Exit.then])
            refine bodyPost_ret (results_tmp2 rfl _ _ _) rfl ?_
            exact ⟨pk.A,pk.n,pk.cap,(K.en p most i).path,1,rfl,by rw [← HPl.out];exact HPow.out,by have h:=HPow.out.1;rw [HPl.out] at h;have:=HLenP.out;omega,⟨i,HAll.out,.inl ⟨hil,HR.out,rfl,rfl⟩⟩,HBw.out⟩
          · have HR : Kept (¬ K.Racy p (K.en p most i).cf):=kp (by rw [← HQcf.out];exact fun h => hr ((K.racy_of HF14.out).2 h))
            have hb14 : (h14 == 1) = false:=by simpa using hr
            obtain ⟨e,he⟩ : ∃ y,y = K.en p most i:=⟨_,rfl⟩
            have HEe:=kp he
            rw [← he] at HEi HQcf HR
            have hil0:=hil
            obtain ⟨s0,hs0⟩ : ∃ y,y = K.st p most i:=⟨_,rfl⟩
            have HS0:=kp hs0
            rw [← hs0] at HMw HEi HInv
            have HQlen : Kept (e.cf.ths.length = q.len):=kp (by rw [← HQcf.out];exact HQm.out.ok.len)
            obtain ⟨nt,hnt⟩ : ∃ y,y = q.len:=⟨_,rfl⟩
            have HNt:=kp hnt
            have hn8 : nt ≤ 8:=by rw [hnt,← HQm.out.ok.len];exact HG.out.most
            have HNl : Kept (e.cf.ths.length = nt):=kp (by rw [hnt];exact HQlen.out)
            have hv8 : (K.st p most i).left = s0.left:=by rw [hs0]
            rw [hv8]
            clear he hs0 hnt hv8
            go_wp2
            go_loopw [6,7,8,14] (fun v6 v7 v8 v14 wr => ∃ (t : Nat) (r : Rr) (cs : List Rc) (ps : List Ps),t ≤ nt ∧ v6 = .slice r.AA r.an r.ac ∧ v7 = .slice r.PA r.pn r.pc ∧ v8 = .bool (K.thrs p most i e s0 t).left ∧ v14 = .int .i64 (t : Int) ∧ RkM wr w.heap.size r (K.thrs p most i e s0 t) cs ps ∧ RkS w1 wr r0 r) (fun _ _ _ v14 _ => nt - (intOf v14).toNat)
            case atStart => exact ⟨0,r,cs,ps,by omega,by rw [HAA.out];try rw [hln.1],by rw [HPA.out];try rw [hln.2.1],rfl,rfl,HMw.out,HSw.out⟩
            case round =>
              clear HMw HSw HPpw HPow HBw HM HS HA HPp HQi HQcf HQm H16 HPi HPl HPo HAA HPA HG HBr HK2 HN2 HB_ HQlen HNt HF14 hgA hgP h2r hsr hln
              obtain ⟨t,r,cs,ps,ht,rfl,rfl,rfl,rfl,hm,hs⟩:=hrel
              have HM:=kp hm;have HS:=kp hs
              obtain ⟨hinv,hei⟩:=K.inv_goOn HF.out HL.out HInv.out HEi.out t
              obtain ⟨st,hst⟩ : ∃ y,y = K.thrs p most i e s0 t:=⟨_,rfl⟩
              have HST:=kp hst
              rw [← hst] at HM hinv hei ⊢
              obtain ⟨HInv0,HInv0e⟩ : ∃ y : Kept (K.Inv p most s0),y = HInv:=⟨_,rfl⟩
              obtain ⟨HEi0,HEi0e⟩ : ∃ y : Kept (s0.all[i]? = some e),y = HEi:=⟨_,rfl⟩
              clear HInv0e HEi0e HInv HEi
              have HInv:=kp hinv;have HEi:=kp hei
              have hln:=HM.out.lens
              have hil : i < st.all.length:=(List.getElem?_eq_some_iff.1 hei).1
              have hlm : st.all.length ≤ 5000:=by
                rcases hinv.len with h | h
                · omega
                · rw [h];simp
              clear hm hs hst hinv hei
              have HB_:=kp (HS.out.under HR1.out HW1.out hs1)
              have HBr:=kp HB_.out
              have hsr:=HBr.out.size
              obtain ⟨hk2,hn2⟩:=HS.out.box HK1.out HN1.out
              have HK2:=kp hk2;have HN2:=kp hn2
              have h2r:=hk2.lt
              clear hk2 hn2
              obtain ⟨gA,off,gP,offP,q,pk,hAA,hPA,hA,hPp,hqi,hqcf,hqm,h16,hpi,hpl,hpo⟩:=HM.out.opens HEi.out
              rw [hAA,hPA]
              have HA:=kp hA;have HPp:=kp hPp;have HQi:=kp hqi;have HQcf:=kp hqcf;have HQm:=kp hqm;have H16:=kp h16;have HPi:=kp hpi;have HPl:=kp hpl;have HPo:=kp hpo;have HAA:=kp hAA;have HPA:=kp hPA
              have HG : Kept (M.Good p q.cf):=kp (by rw [hqcf];exact HInv.out.good _ (List.mem_of_getElem? HEi.out))
              have hgA : gA < wr.heap.size:=by have h:=(HM.out.pt.lt (.inl (show (Value.slice r.AA r.an r.ac).ownBlock = some gA by rw [hAA];rfl))).2;exact h
              have hgP : gP < wr.heap.size:=by have h:=(HM.out.pt.lt (.inr (show (Value.slice r.PA r.pn r.pc).ownBlock = some gP by rw [hPA];rfl))).2;exact h
              clear hA hPp hqi hqcf hqm h16 hpi hpl hpo hAA hPA
              have hqn : q.len = nt:=by rw [← HQm.out.ok.len,HQcf.out];exact HNl.out
              have hcA : wr.cell? ⟨gA,off + i * 18,none⟩ = some (.slice q.A nt q.cap):=by have h:=HA.out.cellAt HQi.out (show 0 < 18 by omega);rw [← hqn];exact h
              have hia : (i : Int) < (r.an : Int):=by omega
              clear hqn
              by_cases hlt : t < nt
              · have HTI : Kept (I64 (t : Int)):=kp (by unfold I64;omega)
                cases hen : M.enabled p q.cf (t : Int) with
                | false =>
                  have HEn:=kp hen
                  have HT : Kept (K.thrs p most i e s0 (t + 1) = st):=kp (by
                    show K.one p most i e (K.thrs p most i e s0 t) t = _
                    rw [← HST.out]
                    unfold K.one
                    rw [if_neg]
                    rw [← HQcf.out]
                    intro h
                    unfold M.enabled at hen
                    rw [Int.toNat_natCast,h] at hen
                    simp at hen)
                  clear hen
                  go_wp2
                  apply jC 7 (.is _ :: .is _ :: .is (.pointer (some ⟨gA,off + i * 18,none⟩)) :: .is (rcA q) :: .is (pgA p) :: .is _ :: .is (.bool false) :: [])
                    [[],[],[(0,65),(1,66)],[(2,67)],[],[],[(3,68),(4,69),(5,70)],[(6,71)]]
                    [(0,65),(1,66),(2,67),(3,68),(4,69),(5,70),(6,71)] (by kernel_rfl) (by kernel_rfl) (by kernel_rfl) (by kernel_rfl) (by kernel_rfl)
                  case hob =>
                    refine ⟨?o0,?o1,?o2,?o3,?o4,?o5,?o6,trivial⟩
                    case o0 => intro W hW;change wpList _ _ _ _ _ _;go_wp2;exact j0 rfl rfl rfl
                    case o1 => intro W hW;change wpList _ _ _ _ _ _;go_wp2;exact j0 rfl rfl rfl
                    case o2 => intro W hW;rintro _ rfl;rintro _ rfl;change wpList _ _ _ _ _ _;go_wp2;exact j0 rfl rfl rfl
                    case o3 =>
                      intro W hW;rintro _ rfl;change wpList _ _ _ _ _ _
                      go_must (refine jM rfl 79 (.tmp 67) rfl ⟨gA,off + i * 18,none⟩ rfl (rcC q) _ ((HA.out.below hW (Nat.le_refl _)).rcAt HQi.out H16.out) Try.underlying79 rfl (by rw [jJ H16.out];exact j5) ?_)
                      go_wp2;exact j0 rfl rfl rfl
                    case o4 =>
                      intro W hW;change wpList _ _ _ _ _ _
                      go_must (refine j1 rfl 24 (.tmp 2) rfl g2 rfl _ (pgC p) _ (HK2.out.below hW h2r) Try.underlying24 rfl jD ?_)
                      go_wp2;exact j0 rfl rfl rfl
                    case o5 => intro W hW;change wpList _ _ _ _ _ _;go_wp2;exact j0 rfl rfl rfl
                    case o6 =>
                      intro W hW;rintro _ rfl;rintro _ rfl;rintro _ rfl;change wpList _ _ _ _ _ _
                      have hsW:=hW.size
                      go_wp2_with fail
                      refine (lG W.heap.size p HF.out q W (lD (HP.out.below (HBr.out.trans (hW.mono hsr) |>.mono hB0)) (by omega)) ((HQm.out.below hW (Nat.le_refl _)).ok) HG.out (Nat.le_refl _) (t : Int) HTI.out false HEn.out).mono ?_
                      rintro e9 w9 ⟨rfl,hb9⟩
                      have HB9:=kp hb9;clear hb9
                      go_wp2
                      exact jB rfl rfl rfl HB9.out rfl
                  case hend =>
                    intro W hW;rintro _ rfl;rintro _ rfl;rintro _ rfl;rintro _ rfl;rintro _ rfl;rintro _ rfl;rintro _ rfl
                    simp only [given,jF,List.set,List.drop]
                    have HMw:=kp (HM.out.below hW (Nat.le_refl _));have HSw:=kp (HS.out.trans (RkS.below (r:=r) hW (Nat.le_refl _)))
                    clear hW
                    go_wp2
                    go_roundw
                    case rel => exact ⟨t + 1,r,cs,ps,by omega,by rw [HAA.out],by rw [HPA.out],by rw [HT.out],by go_num,by rw [HT.out];exact HMw.out,HSw.out⟩
                    case measure => simp [intOf];omega
                | true =>
                  have HEn:=kp hen
                  have HEk : Kept (M.enabledN p e.cf t = true):=kp (by
                    have h:=(M.enabled_split hen).2
                    rw [Int.toNat_natCast] at h
                    rw [← HQcf.out];exact h)
                  have HLv : Kept (M.livesN q.cf t = true):=kp (by rw [HQcf.out];exact M.enabled_lives HEk.out)
                  obtain ⟨x,hx⟩ : ∃ x,M.node p q.cf t = x:=⟨_,rfl⟩
                  have HNx:=kp hx
                  have HOne : Kept (K.thrs p most i e s0 (t + 1) = K.ways p most i e st t (if x.kind = 8 then 2 else 1)):=kp (by
                    show K.one p most i e (K.thrs p most i e s0 t) t = _
                    rw [← HST.out,K.one_ways HEk.out,← hx,HQcf.out])
                  clear hen hx
                  go_wp2
                  apply jC 7 (.is _ :: .is _ :: .is (.pointer (some ⟨gA,off + i * 18,none⟩)) :: .is (rcA q) :: .is (pgA p) :: .is _ :: .is (.bool true) :: [])
                    [[],[],[(0,65),(1,66)],[(2,67)],[],[],[(3,68),(4,69),(5,70)],[(6,71)]]
                    [(0,65),(1,66),(2,67),(3,68),(4,69),(5,70),(6,71)] (by kernel_rfl) (by kernel_rfl) (by kernel_rfl) (by kernel_rfl) (by kernel_rfl)
                  case hob =>
                    refine ⟨?o0,?o1,?o2,?o3,?o4,?o5,?o6,trivial⟩
                    case o0 => intro W hW;change wpList _ _ _ _ _ _;go_wp2;exact j0 rfl rfl rfl
                    case o1 => intro W hW;change wpList _ _ _ _ _ _;go_wp2;exact j0 rfl rfl rfl
                    case o2 => intro W hW;rintro _ rfl;rintro _ rfl;change wpList _ _ _ _ _ _;go_wp2;exact j0 rfl rfl rfl
                    case o3 =>
                      intro W hW;rintro _ rfl;change wpList _ _ _ _ _ _
                      go_must (refine jM rfl 79 (.tmp 67) rfl ⟨gA,off + i * 18,none⟩ rfl (rcC q) _ ((HA.out.below hW (Nat.le_refl _)).rcAt HQi.out H16.out) Try.underlying79 rfl (by rw [jJ H16.out];exact j5) ?_)
                      go_wp2;exact j0 rfl rfl rfl
                    case o4 =>
                      intro W hW;change wpList _ _ _ _ _ _
                      go_must (refine j1 rfl 24 (.tmp 2) rfl g2 rfl _ (pgC p) _ (HK2.out.below hW h2r) Try.underlying24 rfl jD ?_)
                      go_wp2;exact j0 rfl rfl rfl
                    case o5 => intro W hW;change wpList _ _ _ _ _ _;go_wp2;exact j0 rfl rfl rfl
                    case o6 =>
                      intro W hW;rintro _ rfl;rintro _ rfl;rintro _ rfl;change wpList _ _ _ _ _ _
                      have hsW:=hW.size
                      go_wp2_with fail
                      refine (lG W.heap.size p HF.out q W (lD (HP.out.below (HBr.out.trans (hW.mono hsr) |>.mono hB0)) (by omega)) ((HQm.out.below hW (Nat.le_refl _)).ok) HG.out (Nat.le_refl _) (t : Int) HTI.out true HEn.out).mono ?_
                      rintro e9 w9 ⟨rfl,hb9⟩
                      have HB9:=kp hb9;clear hb9
                      go_wp2
                      exact jB rfl rfl rfl HB9.out rfl
                  case hend =>
                    intro W hW;rintro _ rfl;rintro _ rfl;rintro _ rfl;rintro _ rfl;rintro _ rfl;rintro _ rfl;rintro _ rfl
                    simp only [given,jF,List.set,List.drop]
                    have HM_:=kp (HM.out.below hW (Nat.le_refl _));have HS_:=kp (HS.out.trans (RkS.below (r:=r) hW (Nat.le_refl _)));have HA_:=kp (HA.out.below hW (Nat.le_refl _));have HPp_:=kp (HPp.out.below hW (Nat.le_refl _));have HPo_:=kp (HPo.out.below hW (Nat.le_refl _));have HQm_:=kp (HQm.out.below hW (Nat.le_refl _));have HK2_:=kp (HK2.out.below hW h2r);have HBr_:=kp (HBr.out.trans (hW.mono hsr))
                    have hzW:=hW.size
                    have hsr_ : w.heap.size ≤ W.heap.size:=by omega
                    have h2r_ : g2 < W.heap.size:=by omega
                    have hgA_ : gA < W.heap.size:=by omega
                    have hgP_ : gP < W.heap.size:=by omega
                    clear hW HM HS HA HPp HPo HQm HK2 HBr hsr h2r hgA hgP
                    obtain ⟨wr,hwr⟩ : ∃ y,y = W:=⟨_,rfl⟩
                    subst hwr
                    have HM:=kp HM_.out;have HS:=kp HS_.out;have HA:=kp HA_.out;have HPp:=kp HPp_.out;have HPo:=kp HPo_.out;have HQm:=kp HQm_.out;have HK2:=kp HK2_.out;have HBr:=kp HBr_.out
                    have hsr:=hsr_;have h2r:=h2r_;have hgA:=hgA_;have hgP:=hgP_
                    clear HM_ HS_ HA_ HPp_ HPo_ HQm_ HK2_ HBr_ hsr_ h2r_ hgA_ hgP_ hzW
                    go_wp2
                    apply jC 7 (.is _ :: .is _ :: .is (.pointer (some ⟨gA,off + i * 18,none⟩)) :: .is (rcA q) :: .is (pgA p) :: .is _ :: .is (.agg #[.int .i64 x.kind,.int .i64 x.arg,.int .i64 x.next,.int .i64 x.alt]) :: [])
                      [[],[],[(0,73),(1,74)],[(2,75)],[],[],[(3,76),(4,77),(5,78)],[(6,79)],[(7,80)]]
                      [(0,73),(1,74),(2,75),(3,76),(4,77),(5,78),(6,79)] (by kernel_rfl) (by kernel_rfl) (by kernel_rfl) (by kernel_rfl) (by kernel_rfl)
                    case hob =>
                      refine ⟨?o0,?o1,?o2,?o3,?o4,?o5,?o6,trivial⟩
                      case o0 => intro W hW;change wpList _ _ _ _ _ _;go_wp2;exact j0 rfl rfl rfl
                      case o1 => intro W hW;change wpList _ _ _ _ _ _;go_wp2;exact j0 rfl rfl rfl
                      case o2 => intro W hW;rintro _ rfl;rintro _ rfl;change wpList _ _ _ _ _ _;go_wp2;exact j0 rfl rfl rfl
                      case o3 =>
                        intro W hW;rintro _ rfl;change wpList _ _ _ _ _ _
                        go_must (refine jM rfl 79 (.tmp 75) rfl ⟨gA,off + i * 18,none⟩ rfl (rcC q) _ ((HA.out.below hW (Nat.le_refl _)).rcAt HQi.out H16.out) Try.underlying79 rfl (by rw [jJ H16.out];exact j5) ?_)
                        go_wp2;exact j0 rfl rfl rfl
                      case o4 =>
                        intro W hW;change wpList _ _ _ _ _ _
                        go_must (refine j1 rfl 24 (.tmp 2) rfl g2 rfl _ (pgC p) _ (HK2.out.below hW h2r) Try.underlying24 rfl jD ?_)
                        go_wp2;exact j0 rfl rfl rfl
                      case o5 => intro W hW;change wpList _ _ _ _ _ _;go_wp2;exact j0 rfl rfl rfl
                      case o6 =>
                        intro W hW;rintro _ rfl;rintro _ rfl;rintro _ rfl;change wpList _ _ _ _ _ _
                        have hsW:=hW.size
                        go_wp2_with fail
                        refine (qS W.heap.size p HF.out q W (lD (HP.out.below (HBr.out.trans (hW.mono hsr) |>.mono hB0)) (by omega)) ((HQm.out.below hW (Nat.le_refl _)).ok) HG.out (Nat.le_refl _) t HLv.out x HNx.out).mono ?_
                        rintro e9 w9 ⟨rfl,hb9⟩
                        have HB9:=kp hb9;clear hb9
                        go_wp2
                        exact jB rfl rfl rfl HB9.out rfl
                    case hend =>
                      intro W hW;rintro _ rfl;rintro _ rfl;rintro _ rfl;rintro _ rfl;rintro _ rfl;rintro _ rfl;rintro _ rfl
                      simp only [given,jF,List.set,List.drop]
                      have HM_:=kp (HM.out.below hW (Nat.le_refl _));have HS_:=kp (HS.out.trans (RkS.below (r:=r) hW (Nat.le_refl _)));have HA_:=kp (HA.out.below hW (Nat.le_refl _));have HPp_:=kp (HPp.out.below hW (Nat.le_refl _));have HPo_:=kp (HPo.out.below hW (Nat.le_refl _));have HQm_:=kp (HQm.out.below hW (Nat.le_refl _));have HK2_:=kp (HK2.out.below hW h2r);have HBr_:=kp (HBr.out.trans (hW.mono hsr))
                      have hzW:=hW.size
                      have hsr_ : w.heap.size ≤ W.heap.size:=by omega
                      have h2r_ : g2 < W.heap.size:=by omega
                      have hgA_ : gA < W.heap.size:=by omega
                      have hgP_ : gP < W.heap.size:=by omega
                      clear hW HM HS HA HPp HPo HQm HK2 HBr hsr h2r hgA hgP
                      obtain ⟨wr,hwr⟩ : ∃ y,y = W:=⟨_,rfl⟩
                      subst hwr
                      have HM:=kp HM_.out;have HS:=kp HS_.out;have HA:=kp HA_.out;have HPp:=kp HPp_.out;have HPo:=kp HPo_.out;have HQm:=kp HQm_.out;have HK2:=kp HK2_.out;have HBr:=kp HBr_.out
                      have hsr:=hsr_;have h2r:=h2r_;have hgA:=hgA_;have hgP:=hgP_
                      clear HM_ HS_ HA_ HPp_ HPo_ HQm_ HK2_ HBr_ hsr_ h2r_ hgA_ hgP_ hzW
                      by_cases hk8 : x.kind = 8
                      · have hb8 : (x.kind == 8) = true:=by simpa using hk8
                        have HWs : Kept (K.thrs p most i e s0 (t + 1) = K.ways p most i e st t 2):=kp (by rw [HOne.out,if_pos hk8])
                        go_wp2_with ((with_reducible show Sl 80);go_must (refine yB rfl 55 (.tmp 79) 0 rfl _ Try.underlying55 _ rfl _ Try.underlying3 rfl [.int .i64 x.kind,.int .i64 x.arg,.int .i64 x.next,.int .i64 x.alt] rfl (.int .i64 x.kind) rfl ?_))
                        go_loopw [6,7,8,16] (fun v6 v7 v8 v16 wr => ∃ (j : Nat) (r : Rr) (cs : List Rc) (ps : List Ps) (s1 : K.Sk),j ≤ 2 ∧ v6 = .slice r.AA r.an r.ac ∧ v7 = .slice r.PA r.pn r.pc ∧ v8 = .bool s1.left ∧ v16 = .int .i64 (j : Int) ∧ RkM wr w.heap.size r s1 cs ps ∧ RkS w1 wr r0 r ∧ K.Inv p most s1 ∧ s1.all[i]? = some e ∧ K.ways p most i e st t j = s1) (fun _ _ _ v16 _ => 2 - (intOf v16).toNat)
                        case atStart => exact ⟨0,r,cs,ps,st,by omega,by rw [HAA.out];try rw [hln.1],by rw [HPA.out];try rw [hln.2.1],rfl,rfl,HM.out,HS.out,HInv.out,HEi.out,rfl⟩
                        case round =>
                          have HLv1:=HLv.out;have HGt : Kept (M.Good p (M.step p e.cf (t : Int) false) ∧ M.Good p (M.step p e.cf (t : Int) true)):=kp ⟨by rw [← HQcf.out];exact M.good_step HF.out HL.out HG.out _ _,by rw [← HQcf.out];exact M.good_step HF.out HL.out HG.out _ _⟩
                          clear HLv1 HM HS HA HPp HPo HQi HQcf HQm H16 HPi HPl HAA HPA HG HBr HK2 HN2 HB_ hgA hgP h2r hsr hln hlm HEn HLv HNx HST HOne
                          obtain ⟨j,r,cs,ps,s1,hj,rfl,rfl,rfl,rfl,hm,hs,hinv,hei,hs1⟩:=hrel
                          have HM:=kp hm;have HS:=kp hs;have HS1:=kp hs1
                          obtain ⟨HInv1,HInv1e⟩ : ∃ y : Kept (K.Inv p most st),y = HInv:=⟨_,rfl⟩
                          clear HInv1e HInv HEi
                          have HInv:=kp hinv;have HEi:=kp hei
                          have hln:=HM.out.lens
                          have hil : i < s1.all.length:=(List.getElem?_eq_some_iff.1 hei).1
                          have hlm : s1.all.length ≤ 5000:=by
                            rcases hinv.len with h | h
                            · omega
                            · rw [h];simp
                          clear hm hs hs1 hinv hei
                          have HB_:=kp (HS.out.under HR1.out HW1.out hs1)
                          have HBr:=kp HB_.out
                          have hsr:=HBr.out.size
                          obtain ⟨hk2,hn2⟩:=HS.out.box HK1.out HN1.out
                          have HK2:=kp hk2;have HN2:=kp hn2
                          have h2r:=hk2.lt
                          clear hk2 hn2
                          obtain ⟨gA,off,gP,offP,q,pk,hAA,hPA,hA,hPp,hqi,hqcf,hqm,h16,hpi,hpl,hpo⟩:=HM.out.opens HEi.out
                          rw [hAA,hPA]
                          have HA:=kp hA;have HPp:=kp hPp;have HQi:=kp hqi;have HQcf:=kp hqcf;have HQm:=kp hqm;have H16:=kp h16;have HPi:=kp hpi;have HPl:=kp hpl;have HPo:=kp hpo;have HAA:=kp hAA;have HPA:=kp hPA
                          have HG : Kept (M.Good p q.cf):=kp (by rw [hqcf];exact HInv.out.good _ (List.mem_of_getElem? HEi.out))
                          have hgA : gA < wr.heap.size:=by have h:=(HM.out.pt.lt (.inl (show (Value.slice r.AA r.an r.ac).ownBlock = some gA by rw [hAA];rfl))).2;exact h
                          have hgP : gP < wr.heap.size:=by have h:=(HM.out.pt.lt (.inr (show (Value.slice r.PA r.pn r.pc).ownBlock = some gP by rw [hPA];rfl))).2;exact h
                          clear hA hPp hqi hqcf hqm h16 hpi hpl hpo hAA hPA
                          have hia : (i : Int) < (r.an : Int):=by omega
                          have hip : (i : Int) < (r.pn : Int):=by omega
                          by_cases hlt : j < 2
                          · obtain ⟨wy,hwy⟩ : ∃ b,decide ((j : Int) = 1) = b:=⟨_,rfl⟩
                            have hwy2 : ((j : Int) == 1) = wy:=by rw [← hwy];rfl
                            have HWy:=kp hwy
                            obtain ⟨cc,hcc⟩ : ∃ c,M.step p e.cf (t : Int) wy = c:=⟨_,rfl⟩
                            obtain ⟨nx,hnx⟩ : ∃ y,K.next p i e t wy = y:=⟨_,rfl⟩
                            have HNc : Kept (nx.cf = cc ∧ nx.path = e.path ++ [((t : Int),wy)]):=kp (by rw [← hnx,← hcc];exact ⟨rfl,rfl⟩)
                            have HCc:=kp hcc
                            have HGc : Kept (M.Good p cc):=kp (by rw [← hcc];cases wy with | false => exact HGt.out.1 | true => exact HGt.out.2)
                            have HWn : Kept (K.ways p most i e st t (j + 1) = K.put most s1 nx):=kp (by rw [← hnx,← hwy,← HS1.out];rfl)
                            have HInN : Kept (K.Inv p most (K.put most s1 nx) ∧ (K.put most s1 nx).all[i]? = some e):=kp ⟨HInv.out.put (by rw [HNc.out.1];exact HGc.out) (by rw [← hnx];exact .inr ⟨by omega,hil,e,HEi.out,HEk.out,rfl,rfl⟩),(K.put_pre most s1 nx).get HEi.out⟩
                            have HLenP:=kp (K.path_len HInv.out (i + 1) i _ (by omega) HEi.out)
                            clear hwy hcc hnx
                            go_wp2_with (first
                              | ((with_reducible show Sl 17);go_must (refine j3 rfl 51 rfl [.int .i64 0,.bool false] y4 ?_);intro g17 w16 hg17 hk16 hw16;have HK16:=kp hk16;have HW16:=kp hw16;have HG17:=kp hg17;clear hk16 hw16 hg17)
                              | ((with_reducible show Sn);go_must (refine j4 rfl 51 (.tmp 17) (.tmp 90) rfl g17 (pkC ((t : Int),wy)) rfl rfl _ _ HK16.out jY rfl (vX _) ?_);intro W hkW hgW hzW;have HK17:=kp hkW;have hW : Below wr.heap.size wr W:=HW16.out.grown hgW HW16.out.size (fun k e => by cases e;exact HG17.out);have hl17:=hkW.lt;clear hkW hgW hzW))
                            have HN17 : Kept (¬ RkT r g17):=kp (HM.out.pt.other HG17.out)
                            have HM_:=kp (HM.out.below hW (Nat.le_refl _));have HS_:=kp (HS.out.trans (RkS.below (r:=r) hW (Nat.le_refl _)));have HA_:=kp (HA.out.below hW (Nat.le_refl _));have HPp_:=kp (HPp.out.below hW (Nat.le_refl _));have HPo_:=kp (HPo.out.below hW (Nat.le_refl _));have HQm_:=kp (HQm.out.below hW (Nat.le_refl _));have HK2_:=kp (HK2.out.below hW h2r);have HBr_:=kp (HBr.out.trans (hW.mono hsr))
                            have hzW:=hW.size
                            have hsr_ : w.heap.size ≤ W.heap.size:=by omega
                            have h2r_ : g2 < W.heap.size:=by omega
                            have hgA_ : gA < W.heap.size:=by omega
                            have hgP_ : gP < W.heap.size:=by omega
                            clear hW HM HS HA HPp HPo HQm HK2 HBr hsr h2r hgA hgP
                            obtain ⟨wr,hwr⟩ : ∃ y,y = W:=⟨_,rfl⟩
                            subst hwr
                            have HM:=kp HM_.out;have HS:=kp HS_.out;have HA:=kp HA_.out;have HPp:=kp HPp_.out;have HPo:=kp HPo_.out;have HQm:=kp HQm_.out;have HK2:=kp HK2_.out;have HBr:=kp HBr_.out
                            have hsr:=hsr_;have h2r:=h2r_;have hgA:=hgA_;have hgP:=hgP_
                            clear HM_ HS_ HA_ HPp_ HPo_ HQm_ HK2_ HBr_ hsr_ h2r_ hgA_ hgP_ hzW
                            (try simp only [lH])
                            go_wp2
                            apply jC 8 (.is _ :: .is _ :: .is (.pointer (some ⟨gA,off + i * 18,none⟩)) :: .is (rcA q) :: .is (pgA p) :: .is (.agg (pkC ((t : Int),wy)).toArray) :: Fact.rstep12 w.heap.size cc :: Fact.rconf wr.heap.size :: [])
                              [[],[],[(0,91),(1,92)],[(2,93)],[],[],[(3,94),(4,95),(5,96)],[],[(7,18),(6,97)]]
                              [(0,91),(1,92),(2,93),(3,94),(4,95),(5,96),(6,97),(7,18)] (by kernel_rfl) (by kernel_rfl) (by kernel_rfl) (by kernel_rfl) (by kernel_rfl)
                            case hob =>
                              refine ⟨?o0,?o1,?o2,?o3,?o4,?o5,?o6,?o7,trivial⟩
                              case o0 => intro W hW;change wpList _ _ _ _ _ _;go_wp2;exact j0 rfl rfl rfl
                              case o1 => intro W hW;change wpList _ _ _ _ _ _;go_wp2;exact j0 rfl rfl rfl
                              case o2 => intro W hW;rintro _ rfl;rintro _ rfl;change wpList _ _ _ _ _ _;go_wp2;exact j0 rfl rfl rfl
                              case o3 =>
                                intro W hW;rintro _ rfl;change wpList _ _ _ _ _ _
                                go_must (refine jM rfl 79 (.tmp 93) rfl ⟨gA,off + i * 18,none⟩ rfl (rcC q) _ ((HA.out.below hW (Nat.le_refl _)).rcAt HQi.out H16.out) Try.underlying79 rfl (by rw [jJ H16.out];exact j5) ?_)
                                go_wp2;exact j0 rfl rfl rfl
                              case o4 =>
                                intro W hW;change wpList _ _ _ _ _ _
                                go_must (refine j1 rfl 24 (.tmp 2) rfl g2 rfl _ (pgC p) _ (HK2.out.below hW h2r) Try.underlying24 rfl jD ?_)
                                go_wp2;exact j0 rfl rfl rfl
                              case o5 =>
                                intro W hW;change wpList _ _ _ _ _ _
                                go_must (refine j1 rfl 51 (.tmp 17) rfl g17 rfl _ (pkC ((t : Int),wy)) _ (HK17.out.below hW hl17) Try.underlying51 rfl jY ?_)
                                go_wp2;exact j0 rfl rfl rfl
                              case o6 =>
                                intro W hW;rintro _ rfl;rintro _ rfl;rintro _ rfl;change wpList _ _ _ _ _ _
                                have hsW:=hW.size
                                go_wp2_with fail
                                refine (rs_step W.heap.size p HF.out q W (lD (HP.out.below (HBr.out.trans (hW.mono hsr) |>.mono hB0)) (by omega)) ((HQm.out.below hW (Nat.le_refl _)).ok) HG.out (Nat.le_refl _) (t : Int) HTI.out wy).mono ?_
                                unfold StepR
                                rintro e9 w9 ⟨q9,rfl,hm9,hcf9,hb9⟩
                                have HB9:=kp hb9;have HM9:=kp hm9;have HC9:=kp hcf9;clear hb9 hm9 hcf9
                                go_wp2
                                exact jB rfl rfl rfl HB9.out ⟨q9,rfl,HM9.out.lessR (by omega),by rw [HC9.out,HQcf.out,HCc.out]⟩
                              case o7 =>
                                intro W hW;change wpList _ _ _ _ _ _
                                have hsW:=hW.size
                                go_wp2_with ((with_reducible show Sl 18);go_must (refine j3 rfl 79 rfl _ jU ?_);intro g9 w9 hg9 hk9 hw9;have HK9:=kp hk9;have HG9:=kp hg9;have HB9:=kp hw9;clear hk9 hw9 hg9)
                                exact jB rfl rfl rfl HB9.out ⟨g9,rfl,HK9.out,by have:=HG9.out;omega⟩
                            case hend =>
                              intro W hW;rintro _ rfl;rintro _ rfl;rintro _ rfl;rintro _ rfl;rintro _ rfl;rintro _ rfl;rintro _ ⟨c,rfl,hcm,hccf⟩;rintro _ ⟨g18,rfl,hk18,hg18⟩
                              simp only [given,jF,List.set,List.drop]
                              have hzW0:=hW.size
                              have hc16 : c.ow.length = 16:=by have h:=HGc.out.owns;rw [← hccf] at h;exact h
                              have HC16:=kp hc16;have HCcf:=kp hccf;have HCm0:=kp hcm;have HK180:=kp hk18;have HWW:=kp hW;have HG18:=kp hg18
                              clear hW hcm hccf hk18 hc16 hg18
                              go_wp2_with ((with_reducible show Sn);go_must (refine j4 rfl 79 (.tmp 18) (.tmp 97) rfl g18 (rcC c) rfl rfl _ _ HK180.out (by rw [jJ HC16.out];exact j5) (by rw [jJ HC16.out];rfl) (l0 c) ?_);intro w9 hk9 hgr9 hz9;have HK18:=kp hk9;have HGr9:=kp hgr9;clear hk9 hgr9 hz9)
                              have HCm9 : Kept (RMine w9 w.heap.size c):=kp (HCm0.out.held (Held.of_grown (S:=fun k => k < W.heap.size ∧ k ≠ g18) HGr9.out fun _ hk => ⟨hk.1,fun e => hk.2 (Option.some.inj e)⟩) fun k hk ht => ⟨hk,fun e => by rw [e,HK180.out.ty] at ht;rcases ht with ht | ht | ht <;> exact absurd ht (by decide)⟩)
                              have hW9 : Below wr.heap.size wr w9:=HWW.out.grown HGr9.out hzW0 (fun k e => by cases e;exact HG18.out)
                              have HN18 : Kept (¬ RkT r g18):=kp (HM.out.pt.other HG18.out)
                              have hl18:=HK18.out.lt
                              obtain ⟨W9,hW9e⟩ : ∃ y,y = w9:=⟨_,rfl⟩
                              subst hW9e
                              clear HWW HCm0 HK180 HGr9 hzW0 HG18
                              have hW : Below wr.heap.size wr W9:=hW9
                              have HM_:=kp (HM.out.below hW (Nat.le_refl _));have HS_:=kp (HS.out.trans (RkS.below (r:=r) hW (Nat.le_refl _)));have HA_:=kp (HA.out.below hW (Nat.le_refl _));have HPp_:=kp (HPp.out.below hW (Nat.le_refl _));have HPo_:=kp (HPo.out.below hW (Nat.le_refl _));have HQm_:=kp (HQm.out.below hW (Nat.le_refl _));have HK2_:=kp (HK2.out.below hW h2r);have HBr_:=kp (HBr.out.trans (hW.mono hsr));have HK17_:=kp (HK17.out.below hW hl17)
                              have hzW:=hW.size
                              have hsr_ : w.heap.size ≤ W9.heap.size:=by omega
                              have h2r_ : g2 < W9.heap.size:=by omega
                              have hgA_ : gA < W9.heap.size:=by omega
                              have hgP_ : gP < W9.heap.size:=by omega
                              clear hW HM HS HA HPp HPo HQm HK2 HBr hsr h2r hgA hgP hW9 HK17
                              obtain ⟨wr,hwr⟩ : ∃ y,y = W9:=⟨_,rfl⟩
                              subst hwr
                              have HM:=kp HM_.out;have HS:=kp HS_.out;have HA:=kp HA_.out;have HPp:=kp HPp_.out;have HPo:=kp HPo_.out;have HQm:=kp HQm_.out;have HK2:=kp HK2_.out;have HBr:=kp HBr_.out;have HK17:=kp HK17_.out
                              have hsr:=hsr_;have h2r:=h2r_;have hgA:=hgA_;have hgP:=hgP_
                              clear HM_ HS_ HA_ HPp_ HPo_ HQm_ HK2_ HBr_ hsr_ h2r_ hgA_ hgP_ hzW HK17_
                              have hl17:=HK17.out.lt
                              have hl18:=HK18.out.lt
                              (try simp only [lH])
                              go_wp2
                              have HCm:=kp HCm9.out
                              clear HCm9
                              go_loopw [19,20] (fun v19 v20 wx => ∃ k : Nat,k ≤ s1.all.length ∧ v19 = .bool (K.has (s1.all.take k) cc) ∧ v20 = .int .i64 (k : Int) ∧ Below wr.heap.size wr wx) (fun _ v20 _ => s1.all.length - (intOf v20).toNat)
                              case atStart => exact ⟨0,by omega,rfl,rfl,Below.refl _ _⟩
                              case round =>
                                obtain ⟨k,hk,rfl,rfl,hW⟩:=hrel
                                by_cases hkl : (k : Int) < (r.an : Int)
                                · have hkl2 : k < s1.all.length:=by omega
                                  obtain ⟨ek,hek⟩ : ∃ y,s1.all[k]? = some y:=⟨_,List.getElem?_eq_getElem hkl2⟩
                                  have HMore:=kp (K.has_more hek cc)
                                  cases hmet : K.has (s1.all.take k) cc with
                                  | true =>
                                    have HT : Kept (K.has (s1.all.take (k + 1)) cc = true):=kp (by rw [HMore.out,hmet];rfl)
                                    clear hmet hek
                                    go_wp2
                                    go_quiet (fail)
                                    go_wp2
                                    go_roundw
                                    case rel => exact ⟨k + 1,by omega,by rw [HT.out],by go_num,below_drewN hW _⟩
                                    case measure => simp [intOf];omega
                                  | false =>
                                    obtain ⟨b,hb⟩ : ∃ b,decide (ek.cf = cc) = b:=⟨_,rfl⟩
                                    have HT : Kept (K.has (s1.all.take (k + 1)) cc = b):=kp (by rw [HMore.out,hmet,hb];rfl)
                                    obtain ⟨qk,xk,hqk,hqkcf,hqkm,hqk16,hxk1,hxk2,hxk3⟩:=HM.out.at hek
                                    clear hxk1 hxk2 hxk3 xk
                                    have HQk:=kp hqk;have HQkm:=kp (hqkm.below hW (Nat.le_refl _));have HQk16:=kp hqk16
                                    have HQk8 : Kept (∀ l ∈ qk.sls,l.length = 8):=kp (qO (by rw [hqkcf];exact HInv.out.good _ (List.mem_of_getElem? hek)) hqkm.ok)
                                    have HC8 : Kept (∀ l ∈ c.sls,l.length = 8):=kp (qO (by rw [HCcf.out];exact HGc.out) HCm.out.ok)
                                    have HBd : Kept (b = true ↔ qk.cf = c.cf):=kp (by rw [← hb,hqkcf,HCcf.out,decide_eq_true_eq])
                                    have HX:=kp hW
                                    have HA:=kp (HA.out.below hW (Nat.le_refl _));have HCm:=kp (HCm.out.below hW (Nat.le_refl _));have HK18:=kp (HK18.out.below hW hl18)
                                    have hl18:=HK18.out.lt
                                    clear hmet hek hb hqk hqkcf hqkm hqk16 hW
                                    go_wp2
                                    apply jC 8 (.is (.bool false) :: .is (.bool false) :: .is _ :: .is _ :: .is (.pointer (some ⟨gA,off + k * 18,none⟩)) :: .is (rcA qk) :: .is (rcA c) :: .is (.bool b) :: [])
                                      [[],[(0,104)],[(1,105)],[(1,105)],[(2,106),(3,107),(1,105)],[(4,108),(1,105)],[(1,105)],[(5,109),(6,110),(1,105)],[(1,105),(7,111)],[(8,112)]]
                                      [(0,104),(1,105),(2,106),(3,107),(4,108),(5,109),(6,110),(7,111)] (by kernel_rfl) (by kernel_rfl) (by kernel_rfl) (by kernel_rfl) (by kernel_rfl)
                                    case hob =>
                                      refine ⟨?o0,?o1,?o2,?o3,?o4,?o5,?o6,?o7,trivial⟩
                                      case o0 => intro W hW;change wpList _ _ _ _ _ _;go_wp2;exact j0 rfl rfl rfl
                                      case o1 => intro W hW;rintro _ rfl;change wpList _ _ _ _ _ _;go_wp2;exact j0 rfl rfl rfl
                                      case o2 => intro W hW;rintro _ rfl;change wpList _ _ _ _ _ _;go_wp2;exact j0 rfl rfl rfl
                                      case o3 => intro W hW;rintro _ rfl;change wpList _ _ _ _ _ _;go_wp2;exact j0 rfl rfl rfl
                                      case o4 => intro W hW;rintro _ rfl;rintro _ rfl;rintro _ rfl;change wpList _ _ _ _ _ _;go_wp2;exact j0 rfl rfl rfl
                                      case o5 =>
                                        intro W hW;rintro _ rfl;rintro _ rfl;change wpList _ _ _ _ _ _
                                        go_must (refine jL rfl 79 (.tmp 108) rfl ⟨gA,off + k * 18,none⟩ rfl (rcC qk) _ ((HA.out.below hW (Nat.le_refl _)).rcAt HQk.out HQk16.out) Try.underlying79 rfl (by rw [jJ HQk16.out];exact j5) ?_)
                                        go_wp2;exact j0 rfl rfl rfl
                                      case o6 =>
                                        intro W hW;rintro _ rfl;change wpList _ _ _ _ _ _
                                        go_must (refine jL rfl 79 (.tmp 18) rfl ⟨g18,0,none⟩ rfl (rcC c) _ (fun j v hv => by rw [Addr.add_mid,Nat.zero_add,(HK18.out.below hW hl18).cell];exact hv) Try.underlying79 rfl (by rw [jJ HC16.out];exact j5) ?_)
                                        go_wp2;exact j0 rfl rfl rfl
                                      case o7 =>
                                        intro W hW;rintro _ rfl;rintro _ rfl;rintro _ rfl;change wpList _ _ _ _ _ _
                                        have hsW:=hW.size
                                        go_wp2_with fail
                                        refine (rs_same W.heap.size qk c W ((HQkm.out.below hW (Nat.le_refl _)).ok) ((HCm.out.below hW (Nat.le_refl _)).ok) (Nat.le_refl _) HQk8.out HC8.out HQk16.out HC16.out b HBd.out).mono ?_
                                        rintro e9 w9 ⟨rfl,hb9⟩
                                        have HB9:=kp hb9;clear hb9
                                        go_wp2
                                        exact jB rfl rfl rfl HB9.out rfl
                                    case hend =>
                                      intro W hW;rintro _ rfl;rintro _ rfl;rintro _ rfl;rintro _ rfl;rintro _ rfl;rintro _ rfl;rintro _ rfl;rintro _ rfl
                                      simp only [given,jF,List.set,List.drop]
                                      have hWx:=HX.out.trans (hW.mono HX.out.size)
                                      clear hW
                                      go_wp2
                                      go_roundw
                                      case rel => exact ⟨k + 1,by omega,by rw [HT.out],by go_num,hWx⟩
                                      case measure => simp [intOf];omega
                                · have hke : k = s1.all.length:=by omega
                                  subst hke
                                  rw [List.take_length]
                                  have HM_:=kp (HM.out.below hW (Nat.le_refl _));have HS_:=kp (HS.out.trans (RkS.below (r:=r) hW (Nat.le_refl _)));have HA_:=kp (HA.out.below hW (Nat.le_refl _));have HPp_:=kp (HPp.out.below hW (Nat.le_refl _));have HPo_:=kp (HPo.out.below hW (Nat.le_refl _));have HQm_:=kp (HQm.out.below hW (Nat.le_refl _));have HK2_:=kp (HK2.out.below hW h2r);have HBr_:=kp (HBr.out.trans (hW.mono hsr));have HK17_:=kp (HK17.out.below hW hl17);have HK18_:=kp (HK18.out.below hW hl18);have HCm_:=kp (HCm.out.below hW (Nat.le_refl _))
                                  have hzW:=hW.size
                                  have hsr_ : w.heap.size ≤ wr.heap.size:=by omega
                                  have h2r_ : g2 < wr.heap.size:=by omega
                                  have hgA_ : gA < wr.heap.size:=by omega
                                  have hgP_ : gP < wr.heap.size:=by omega
                                  clear hW HM HS HA HPp HPo HQm HK2 HBr hsr h2r hgA hgP  HK17 HK18 HCm
                                  obtain ⟨wr,hwr⟩ : ∃ y,y = wr:=⟨_,rfl⟩
                                  subst hwr
                                  have HM:=kp HM_.out;have HS:=kp HS_.out;have HA:=kp HA_.out;have HPp:=kp HPp_.out;have HPo:=kp HPo_.out;have HQm:=kp HQm_.out;have HK2:=kp HK2_.out;have HBr:=kp HBr_.out;have HK17:=kp HK17_.out;have HK18:=kp HK18_.out;have HCm:=kp HCm_.out
                                  have hsr:=hsr_;have h2r:=h2r_;have hgA:=hgA_;have hgP:=hgP_
                                  clear HM_ HS_ HA_ HPp_ HPo_ HQm_ HK2_ HBr_ hsr_ h2r_ hgA_ hgP_ hzW HK17_ HK18_ HCm_
                                  have hl17:=HK17.out.lt
                                  have hl18:=HK18.out.lt
                                  cases hmet : K.has s1.all cc with
                                  | true =>
                                    have HPut : Kept (K.put most s1 nx = s1):=kp (by unfold K.put;rw [if_pos (by rw [HNc.out.1];exact hmet)])
                                    clear hmet
                                    go_wp2
                                    go_roundw
                                    case rel => exact ⟨j + 1,r,cs,ps,s1,by omega,by rw [HAA.out];try rw [hln.1],by rw [HPA.out];try rw [hln.2.1],rfl,by go_num,HM.out,HS.out,HInv.out,HEi.out,by rw [HWn.out,HPut.out]⟩
                                    case measure => simp [intOf];omega
                                  | false =>
                                    have hnm : ¬ K.has s1.all nx.cf = true:=by rw [HNc.out.1,hmet];simp
                                    by_cases hfull : most ≤ (s1.all.length : Int)
                                    · have HPut : Kept (K.put most s1 nx = ⟨s1.all,true⟩):=kp (by unfold K.put;rw [if_neg hnm,if_pos hfull])
                                      have hfa : most ≤ (r.an : Int):=by omega
                                      clear hmet hnm
                                      go_wp2
                                      go_roundw
                                      case rel => exact ⟨j + 1,r,cs,ps,⟨s1.all,true⟩,by omega,by rw [HAA.out];try rw [hln.1],by rw [HPA.out];try rw [hln.2.1],rfl,by go_num,⟨HM.out.pt,HM.out.cfs,HM.out.pks⟩,HS.out,by rw [← HPut.out];exact HInN.out.1,HEi.out,by rw [HWn.out,HPut.out]⟩
                                      case measure => simp [intOf];omega
                                    · have HPut : Kept (K.put most s1 nx = ⟨s1.all ++ [nx],s1.left⟩):=kp (by unfold K.put;rw [if_neg hnm,if_neg hfull])
                                      have hfa : ¬ most ≤ (r.an : Int):=by omega
                                      have hpn : pk.n ≤ 5000:=by have h1:=HPo.out.1;rw [HPl.out] at h1;have h2:=HLenP.out;omega
                                      clear hmet hnm
                                      go_wp2_with (first
                                        | ((with_reducible show Sl 119);go_must (refine j1 rfl 79 (.tmp 18) rfl g18 rfl _ (rcC c) _ HK18.out Try.underlying79 rfl (by rw [jJ HC16.out];exact j5) ?_))
                                        | ((with_reducible show Sl 120);go_must (refine j8 rfl 74 79 (.tmp 119) rfl 18 Try.underlying74 zD (by decide) (by decide) (.agg (rcC c).toArray) (rcC c) rfl rfl (jJ HC16.out) ?_);intro g3 w3 hg3 hk3 hb3;have HK3:=kp hk3;have HB3:=kp hb3;have hs3:=hb3.size;have HM3:=kp (HM.out.pt.below hb3 (Nat.le_refl _));have HA3:=kp ((show OwnT 18 rcV wr w.heap.size 79 (some ⟨gA,off,none⟩) s1.all.length r.ac cs by rw [← hln.1];exact HA.out).below hb3 (Nat.le_refl _));have HC3:=kp (HCm.out.below hb3 (Nat.le_refl _));clear hk3 hb3)
                                        | (at_builtin;(with_reducible show Sl 121);go_must (refine jS (B:=w.heap.size) rfl (.tmp 118) (.tmp 120) 74 rfl Try.underlying74 zZ rfl QK rfl HA3.out c ⟨g3,0,none⟩ 1 rfl (fun j hj => by rw [Addr.add_mid,Nat.zero_add,HK3.out.cell];exact QL HC16.out hj) (by unfold maxLen;omega) (by omega) (by omega) ?_);intro A4 c4 w4 hown4 hgr4;have HO4:=kp hown4;have HG4:=kp hgr4;clear hown4 hgr4))
                                      obtain ⟨hp4,hs4,hq4⟩:=HM3.out.alled (by rw [HAA.out,hln.1];exact HG4.out) HO4.out (fun y hy => by
                                        rcases List.mem_append.1 hy with h | h
                                        · exact HM3.out.confs y h
                                        · rw [List.mem_singleton.1 h];exact ⟨HC3.out,HC16.out⟩)
                                      obtain ⟨r4,hr4⟩ : ∃ y : Rr,y = { r with AA:=A4,an:=s1.all.length + 1,ac:=c4 }:=⟨_,rfl⟩
                                      rw [← hr4] at hp4 hs4
                                      have HR4 : Kept (r4.AA = A4 ∧ r4.an = s1.all.length + 1 ∧ r4.ac = c4 ∧ r4.PA = some ⟨gP,offP,none⟩ ∧ r4.pn = s1.all.length ∧ r4.pc = r.pc):=kp (by rw [hr4];exact ⟨rfl,rfl,rfl,HPA.out,hln.2.1,rfl⟩)
                                      have HS14:=kp ((RkS.below (r:=r) HB3.out (Nat.le_refl _)).trans hs4)
                                      have hk174:=HS14.out.box HK17.out HN17.out
                                      have HPo4 : Kept (OwnT 2 pkV w4 w.heap.size 51 pk.A pk.n pk.cap pk.l):=kp (hp4.picks pk (List.mem_of_getElem? HPi.out))
                                      have HPp4 : Kept (OwnT 1 psV w4 w.heap.size 27 (some ⟨gP,offP,none⟩) s1.all.length r.pc ps):=kp (by have h:=hp4.paths;rw [HR4.out.2.2.2.1,HR4.out.2.2.2.2.1,HR4.out.2.2.2.2.2] at h;exact h)
                                      have HP4:=kp hp4;have HS4:=kp (HS.out.trans HS14.out);have HK174:=kp hk174.1
                                      have hs4z:=HS14.out.1.size
                                      have hw4 : w.heap.size ≤ w4.heap.size:=by omega
                                      have hl174:=hk174.1.lt
                                      clear hp4 hs4 hq4 hr4 hk174
                                      go_wp2
                                      apply qM 9 (.is (.slice (some ⟨gP,offP,none⟩) s1.all.length r.pc) :: Fact.empty12 w4.heap.size :: .is _ :: .is _ :: .is (.pointer (some ⟨gP,offP + i,none⟩)) :: .is (.slice pk.A pk.n pk.cap) :: Fact.picks w4.heap.size pk.n pk.l :: .is (.agg (pkC ((t : Int),wy)).toArray) :: Fact.elem 51 (pkC ((t : Int),wy)) :: [])
                                        [[],[],[],[],[(2,124),(3,125)],[(4,126)],[(1,123),(5,127)],[],[(7,129)],[(6,128),(8,130)],[(9,131)],[(0,122),(10,132)],[(11,133)]]
                                        [(0,122),(1,123),(2,124),(3,125),(4,126),(5,127),(6,128),(7,129),(8,130)] (o0:=_) (c0:=.slice (some ⟨gP,offP,none⟩) s1.all.length r.pc) (hm:=by kernel_rfl) (hok:=by kernel_rfl) (ht:=by kernel_rfl) (hn:=by kernel_rfl) (hev:=by kernel_rfl) (ho0:=rfl) (hsel:=by kernel_rfl) (hfree:=by kernel_rfl) (hrd:=by kernel_rfl) (hw0:=by rfl) (hy0:=fun _ => by rfl) (hR0:=rfl)
                                      case hob =>
                                        refine ⟨?o0,?o1,?o2,?o3,?o4,?o5,?o6,?o7,?o8,trivial⟩
                                        case o0 => intro W hW;change wpList _ _ _ _ _ _;go_wp2;exact j0 rfl rfl rfl
                                        case o1 =>
                                          intro W hW;change wpList _ _ _ _ _ _
                                          have hbs:=hW.size
                                          clear hW
                                          have HB5:=kp ((Below.refl W.heap.size W).alloc (Nat.le_refl _) (.cells #[] 51))
                                          go_wp2
                                          exact jB rfl rfl rfl HB5.out ⟨W.heap.size,rfl,OwnR.empty _ _ _ _ _ (by omega)⟩
                                        case o2 => intro W hW;change wpList _ _ _ _ _ _;go_wp2;exact j0 rfl rfl rfl
                                        case o3 => intro W hW;change wpList _ _ _ _ _ _;go_wp2;exact j0 rfl rfl rfl
                                        case o4 => intro W hW;rintro _ rfl;rintro _ rfl;change wpList _ _ _ _ _ _;go_wp2;exact j0 rfl rfl rfl
                                        case o5 =>
                                          intro W hW;rintro _ rfl;change wpList _ _ _ _ _ _
                                          have hcP : W.cell? ⟨gP,offP + i,none⟩ = some (.slice pk.A pk.n pk.cap):=by have h:=(HPp4.out.below hW (Nat.le_refl _)).cellAt HPi.out (show 0 < 1 by omega);rw [Nat.mul_one] at h;exact h
                                          go_wp2;exact j0 rfl rfl rfl
                                        case o6 =>
                                          intro W hW;rintro _ ⟨ge,rfl,hoe⟩;rintro _ rfl;change wpList _ _ _ _ _ _
                                          have hsW:=hW.size
                                          have HOe:=kp hoe;have HRc:=kp ((HPo4.out.below hW (Nat.le_refl _)).recs)
                                          clear hoe
                                          go_wp2_with (at_builtin;go_must (refine lM rfl (.tmp 123) (.tmp 127) 27 rfl w4.heap.size 51 2 _ 16 Try.underlying27 xC rfl (by decide) pkV yI ge rfl HOe.out pk.A pk.n pk.cap _ pk.l rfl HRc.out (by unfold maxLen;omega) (by omega) hsW ?_);intro g9 c9 w9 hown9 hb9 _;have HO9:=kp hown9;have HB9:=kp hb9;clear hown9 hb9)
                                          exact jB rfl rfl rfl HB9.out ⟨g9,c9,rfl,HO9.out⟩
                                        case o7 =>
                                          intro W hW;change wpList _ _ _ _ _ _
                                          go_must (refine j1 rfl 51 (.tmp 17) rfl g17 rfl _ (pkC ((t : Int),wy)) _ (HK174.out.below hW hl174) Try.underlying51 rfl jY ?_)
                                          go_wp2;exact j0 rfl rfl rfl
                                        case o8 =>
                                          intro W hW;rintro _ rfl;change wpList _ _ _ _ _ _
                                          go_wp2_with ((with_reducible show Sl 130);go_must (refine j8 rfl 27 51 (.tmp 129) rfl 2 Try.underlying27 yP (by decide) (by decide) (.agg (pkC ((t : Int),wy)).toArray) (pkC ((t : Int),wy)) rfl rfl rfl ?_);intro g6 w6 hg6 hk6 hb6;have HK6:=kp hk6;have HB6:=kp hb6;clear hk6 hb6)
                                          exact jB rfl rfl rfl HB6.out ⟨g6,rfl,HK6.out⟩
                                      case hend =>
                                        intro W hW;rintro _ rfl;rintro _ ⟨ge,rfl,hoe⟩;rintro _ rfl;rintro _ rfl;rintro _ rfl;rintro _ rfl;rintro _ ⟨gn,cn,rfl,hon⟩;rintro _ rfl;rintro _ ⟨gu,rfl,hku⟩
                                        simp only [given,jF,List.set,List.drop]
                                        have HP5:=kp (HP4.out.below hW (Nat.le_refl _));have HS5:=kp (HS4.out.trans (RkS.below (r:=r4) hW (Nat.le_refl _)));have HPp5:=kp (HPp4.out.below hW (Nat.le_refl _));have HO5:=kp hon.tail;have HKu:=kp hku;have HBw:=kp hW
                                        have hsW:=hW.size
                                        clear hW hoe hon hku
                                        go_wp2_with (first
                                          | ((with_reducible show wpList _ _ _ (⟨some 131,_,_,_,_,_⟩ :: _) _ _);at_builtin;go_must (refine jS rfl (.tmp 128) (.tmp 130) 27 rfl Try.underlying27 xC rfl yI rfl HO5.out ((t : Int),wy) ⟨gu,0,none⟩ 1 rfl (fun j hj => by rw [Addr.add_mid,Nat.zero_add,HKu.out.cell];exact vE _ j hj) (by unfold maxLen;omega) (by omega) hsW ?_);intro A7 c7 w7 hown7 hgr7;have HO7:=kp hown7;have HB7 : Kept (Below w4.heap.size w4 w7):=kp (HBw.out.grown hgr7.1 hsW (fun k hk => (HO5.out.block k hk).1));have hs7:=HB7.out.size;clear hown7 hgr7)
                                          | ((with_reducible show Sl 132);go_must (refine j8 rfl 75 27 (.tmp 131) rfl 1 Try.underlying75 zH (by decide) (by decide) (.slice A7 (pk.n + 1) c7) [.slice A7 (pk.n + 1) c7] rfl rfl rfl ?_);intro g8 w8 hg8 hk8 hb8;have HK8:=kp hk8;have HO8:=kp (HO7.out.below hb8 (Nat.le_refl _));have HB8:=kp (HB7.out.trans (hb8.mono hs7));have hs8:=HB8.out.size;have HP8:=kp (HP4.out.below HB8.out (Nat.le_refl _));have HPp8:=kp (HPp4.out.below HB8.out (Nat.le_refl _));have HS8:=kp (HS4.out.trans (RkS.below (r:=r4) HB8.out (Nat.le_refl _)));clear hk8 hb8)
                                          | ((with_reducible show wpList _ _ _ (⟨some 133,_,_,_,_,_⟩ :: _) _ _);at_builtin;go_must (refine jS rfl (.tmp 122) (.tmp 132) 75 rfl Try.underlying75 vF rfl QN rfl HPp8.out ⟨A7,pk.n + 1,c7,pk.l ++ [((t : Int),wy)]⟩ ⟨g8,0,none⟩ 1 rfl (fun j hj => by rw [Addr.add_mid,Nat.zero_add,HK8.out.cell,show j = 0 by omega];rfl) (by unfold maxLen;omega) (by omega) (by omega) ?_);intro A9 c9 w9 hown9 hgr9;have HO9:=kp hown9;have HG9:=kp hgr9;clear hown9 hgr9))
                                        refine NoPanic.normal ?_
                                        obtain ⟨hp9,hs9⟩:=HP8.out.pathed (by rw [HR4.out.2.2.2.1,HR4.out.2.2.2.2.1,HR4.out.2.2.2.2.2];exact HG9.out) HO9.out (fun y hy => by
                                          rcases List.mem_append.1 hy with h | h
                                          · exact HP8.out.picks y h
                                          · rw [List.mem_singleton.1 h];exact HO8.out.less hw4)
                                        obtain ⟨r9,hr9⟩ : ∃ y : Rr,y = { r4 with PA:=A9,pn:=s1.all.length + 1,pc:=c9 }:=⟨_,rfl⟩
                                        rw [← hr9] at hp9 hs9
                                        have HR9 : Kept (r9.AA = A4 ∧ r9.an = s1.all.length + 1 ∧ r9.ac = c4 ∧ r9.PA = A9 ∧ r9.pn = s1.all.length + 1 ∧ r9.pc = c9):=kp (by rw [hr9];exact ⟨HR4.out.1,HR4.out.2.1,HR4.out.2.2.1,rfl,rfl,rfl⟩)
                                        have HM9 : Kept (RkM w9 w.heap.size r9 ⟨s1.all ++ [nx],s1.left⟩ (cs ++ [c]) (ps ++ [⟨A7,pk.n + 1,c7,pk.l ++ [((t : Int),wy)]⟩])):=kp ⟨hp9,by simp only [List.map_append,List.map_cons,List.map_nil,HM.out.cfs,HCcf.out,HNc.out.1],by simp only [List.map_append,List.map_cons,List.map_nil,HM.out.pks,HPl.out,HNc.out.2]⟩
                                        have HS9:=kp (HS8.out.trans hs9)
                                        clear hp9 hs9 hr9
                                        go_wp2
                                        go_roundw
                                        case rel => exact ⟨j + 1,r9,_,_,⟨s1.all ++ [nx],s1.left⟩,by omega,by rw [HR9.out.1,HR9.out.2.1,HR9.out.2.2.1];try rw [hln.1],by rw [HR9.out.2.2.2.1,HR9.out.2.2.2.2.1,HR9.out.2.2.2.2.2];try rw [hln.2.1],rfl,by go_num,HM9.out,HS9.out,by rw [← HPut.out];exact HInN.out.1,by have h:=HInN.out.2;rw [HPut.out] at h;exact h,by rw [HWn.out,HPut.out]⟩
                                        case measure => simp [intOf];omega
                          · have hjn : j = 2:=by omega
                            subst hjn
                            go_wp2
                            go_roundw
                            case rel => exact ⟨t + 1,r,cs,ps,by omega,by rw [HAA.out];try rw [hln.1],by rw [HPA.out];try rw [hln.2.1],by rw [HWs.out,HS1.out],by go_num,by rw [HWs.out,HS1.out];exact HM.out,HS.out⟩
                            case measure => simp [intOf];omega
                      · have hb8 : (x.kind == 8) = false:=by simpa using hk8
                        have HWs : Kept (K.thrs p most i e s0 (t + 1) = K.ways p most i e st t 1):=kp (by rw [HOne.out,if_neg hk8])
                        go_wp2_with ((with_reducible show Sl 80);go_must (refine yB rfl 55 (.tmp 79) 0 rfl _ Try.underlying55 _ rfl _ Try.underlying3 rfl [.int .i64 x.kind,.int .i64 x.arg,.int .i64 x.next,.int .i64 x.alt] rfl (.int .i64 x.kind) rfl ?_))
                        go_loopw [6,7,8,16] (fun v6 v7 v8 v16 wr => ∃ (j : Nat) (r : Rr) (cs : List Rc) (ps : List Ps) (s1 : K.Sk),j ≤ 1 ∧ v6 = .slice r.AA r.an r.ac ∧ v7 = .slice r.PA r.pn r.pc ∧ v8 = .bool s1.left ∧ v16 = .int .i64 (j : Int) ∧ RkM wr w.heap.size r s1 cs ps ∧ RkS w1 wr r0 r ∧ K.Inv p most s1 ∧ s1.all[i]? = some e ∧ K.ways p most i e st t j = s1) (fun _ _ _ v16 _ => 1 - (intOf v16).toNat)
                        case atStart => exact ⟨0,r,cs,ps,st,by omega,by rw [HAA.out];try rw [hln.1],by rw [HPA.out];try rw [hln.2.1],rfl,rfl,HM.out,HS.out,HInv.out,HEi.out,rfl⟩
                        case round =>
                          have HLv1:=HLv.out;have HGt : Kept (M.Good p (M.step p e.cf (t : Int) false) ∧ M.Good p (M.step p e.cf (t : Int) true)):=kp ⟨by rw [← HQcf.out];exact M.good_step HF.out HL.out HG.out _ _,by rw [← HQcf.out];exact M.good_step HF.out HL.out HG.out _ _⟩
                          clear HLv1 HM HS HA HPp HPo HQi HQcf HQm H16 HPi HPl HAA HPA HG HBr HK2 HN2 HB_ hgA hgP h2r hsr hln hlm HEn HLv HNx HST HOne
                          obtain ⟨j,r,cs,ps,s1,hj,rfl,rfl,rfl,rfl,hm,hs,hinv,hei,hs1⟩:=hrel
                          have HM:=kp hm;have HS:=kp hs;have HS1:=kp hs1
                          obtain ⟨HInv1,HInv1e⟩ : ∃ y : Kept (K.Inv p most st),y = HInv:=⟨_,rfl⟩
                          clear HInv1e HInv HEi
                          have HInv:=kp hinv;have HEi:=kp hei
                          have hln:=HM.out.lens
                          have hil : i < s1.all.length:=(List.getElem?_eq_some_iff.1 hei).1
                          have hlm : s1.all.length ≤ 5000:=by
                            rcases hinv.len with h | h
                            · omega
                            · rw [h];simp
                          clear hm hs hs1 hinv hei
                          have HB_:=kp (HS.out.under HR1.out HW1.out hs1)
                          have HBr:=kp HB_.out
                          have hsr:=HBr.out.size
                          obtain ⟨hk2,hn2⟩:=HS.out.box HK1.out HN1.out
                          have HK2:=kp hk2;have HN2:=kp hn2
                          have h2r:=hk2.lt
                          clear hk2 hn2
                          obtain ⟨gA,off,gP,offP,q,pk,hAA,hPA,hA,hPp,hqi,hqcf,hqm,h16,hpi,hpl,hpo⟩:=HM.out.opens HEi.out
                          rw [hAA,hPA]
                          have HA:=kp hA;have HPp:=kp hPp;have HQi:=kp hqi;have HQcf:=kp hqcf;have HQm:=kp hqm;have H16:=kp h16;have HPi:=kp hpi;have HPl:=kp hpl;have HPo:=kp hpo;have HAA:=kp hAA;have HPA:=kp hPA
                          have HG : Kept (M.Good p q.cf):=kp (by rw [hqcf];exact HInv.out.good _ (List.mem_of_getElem? HEi.out))
                          have hgA : gA < wr.heap.size:=by have h:=(HM.out.pt.lt (.inl (show (Value.slice r.AA r.an r.ac).ownBlock = some gA by rw [hAA];rfl))).2;exact h
                          have hgP : gP < wr.heap.size:=by have h:=(HM.out.pt.lt (.inr (show (Value.slice r.PA r.pn r.pc).ownBlock = some gP by rw [hPA];rfl))).2;exact h
                          clear hA hPp hqi hqcf hqm h16 hpi hpl hpo hAA hPA
                          have hia : (i : Int) < (r.an : Int):=by omega
                          have hip : (i : Int) < (r.pn : Int):=by omega
                          by_cases hlt : j < 1
                          · obtain ⟨wy,hwy⟩ : ∃ b,decide ((j : Int) = 1) = b:=⟨_,rfl⟩
                            have hwy2 : ((j : Int) == 1) = wy:=by rw [← hwy];rfl
                            have HWy:=kp hwy
                            obtain ⟨cc,hcc⟩ : ∃ c,M.step p e.cf (t : Int) wy = c:=⟨_,rfl⟩
                            obtain ⟨nx,hnx⟩ : ∃ y,K.next p i e t wy = y:=⟨_,rfl⟩
                            have HNc : Kept (nx.cf = cc ∧ nx.path = e.path ++ [((t : Int),wy)]):=kp (by rw [← hnx,← hcc];exact ⟨rfl,rfl⟩)
                            have HCc:=kp hcc
                            have HGc : Kept (M.Good p cc):=kp (by rw [← hcc];cases wy with | false => exact HGt.out.1 | true => exact HGt.out.2)
                            have HWn : Kept (K.ways p most i e st t (j + 1) = K.put most s1 nx):=kp (by rw [← hnx,← hwy,← HS1.out];rfl)
                            have HInN : Kept (K.Inv p most (K.put most s1 nx) ∧ (K.put most s1 nx).all[i]? = some e):=kp ⟨HInv.out.put (by rw [HNc.out.1];exact HGc.out) (by rw [← hnx];exact .inr ⟨by omega,hil,e,HEi.out,HEk.out,rfl,rfl⟩),(K.put_pre most s1 nx).get HEi.out⟩
                            have HLenP:=kp (K.path_len HInv.out (i + 1) i _ (by omega) HEi.out)
                            clear hwy hcc hnx
                            go_wp2_with (first
                              | ((with_reducible show Sl 17);go_must (refine j3 rfl 51 rfl [.int .i64 0,.bool false] y4 ?_);intro g17 w16 hg17 hk16 hw16;have HK16:=kp hk16;have HW16:=kp hw16;have HG17:=kp hg17;clear hk16 hw16 hg17)
                              | ((with_reducible show Sn);go_must (refine j4 rfl 51 (.tmp 17) (.tmp 90) rfl g17 (pkC ((t : Int),wy)) rfl rfl _ _ HK16.out jY rfl (vX _) ?_);intro W hkW hgW hzW;have HK17:=kp hkW;have hW : Below wr.heap.size wr W:=HW16.out.grown hgW HW16.out.size (fun k e => by cases e;exact HG17.out);have hl17:=hkW.lt;clear hkW hgW hzW))
                            have HN17 : Kept (¬ RkT r g17):=kp (HM.out.pt.other HG17.out)
                            have HM_:=kp (HM.out.below hW (Nat.le_refl _));have HS_:=kp (HS.out.trans (RkS.below (r:=r) hW (Nat.le_refl _)));have HA_:=kp (HA.out.below hW (Nat.le_refl _));have HPp_:=kp (HPp.out.below hW (Nat.le_refl _));have HPo_:=kp (HPo.out.below hW (Nat.le_refl _));have HQm_:=kp (HQm.out.below hW (Nat.le_refl _));have HK2_:=kp (HK2.out.below hW h2r);have HBr_:=kp (HBr.out.trans (hW.mono hsr))
                            have hzW:=hW.size
                            have hsr_ : w.heap.size ≤ W.heap.size:=by omega
                            have h2r_ : g2 < W.heap.size:=by omega
                            have hgA_ : gA < W.heap.size:=by omega
                            have hgP_ : gP < W.heap.size:=by omega
                            clear hW HM HS HA HPp HPo HQm HK2 HBr hsr h2r hgA hgP
                            obtain ⟨wr,hwr⟩ : ∃ y,y = W:=⟨_,rfl⟩
                            subst hwr
                            have HM:=kp HM_.out;have HS:=kp HS_.out;have HA:=kp HA_.out;have HPp:=kp HPp_.out;have HPo:=kp HPo_.out;have HQm:=kp HQm_.out;have HK2:=kp HK2_.out;have HBr:=kp HBr_.out
                            have hsr:=hsr_;have h2r:=h2r_;have hgA:=hgA_;have hgP:=hgP_
                            clear HM_ HS_ HA_ HPp_ HPo_ HQm_ HK2_ HBr_ hsr_ h2r_ hgA_ hgP_ hzW
                            (try simp only [lH])
                            go_wp2
                            apply jC 8 (.is _ :: .is _ :: .is (.pointer (some ⟨gA,off + i * 18,none⟩)) :: .is (rcA q) :: .is (pgA p) :: .is (.agg (pkC ((t : Int),wy)).toArray) :: Fact.rstep12 w.heap.size cc :: Fact.rconf wr.heap.size :: [])
                              [[],[],[(0,91),(1,92)],[(2,93)],[],[],[(3,94),(4,95),(5,96)],[],[(7,18),(6,97)]]
                              [(0,91),(1,92),(2,93),(3,94),(4,95),(5,96),(6,97),(7,18)] (by kernel_rfl) (by kernel_rfl) (by kernel_rfl) (by kernel_rfl) (by kernel_rfl)
                            case hob =>
                              refine ⟨?o0,?o1,?o2,?o3,?o4,?o5,?o6,?o7,trivial⟩
                              case o0 => intro W hW;change wpList _ _ _ _ _ _;go_wp2;exact j0 rfl rfl rfl
                              case o1 => intro W hW;change wpList _ _ _ _ _ _;go_wp2;exact j0 rfl rfl rfl
                              case o2 => intro W hW;rintro _ rfl;rintro _ rfl;change wpList _ _ _ _ _ _;go_wp2;exact j0 rfl rfl rfl
                              case o3 =>
                                intro W hW;rintro _ rfl;change wpList _ _ _ _ _ _
                                go_must (refine jM rfl 79 (.tmp 93) rfl ⟨gA,off + i * 18,none⟩ rfl (rcC q) _ ((HA.out.below hW (Nat.le_refl _)).rcAt HQi.out H16.out) Try.underlying79 rfl (by rw [jJ H16.out];exact j5) ?_)
                                go_wp2;exact j0 rfl rfl rfl
                              case o4 =>
                                intro W hW;change wpList _ _ _ _ _ _
                                go_must (refine j1 rfl 24 (.tmp 2) rfl g2 rfl _ (pgC p) _ (HK2.out.below hW h2r) Try.underlying24 rfl jD ?_)
                                go_wp2;exact j0 rfl rfl rfl
                              case o5 =>
                                intro W hW;change wpList _ _ _ _ _ _
                                go_must (refine j1 rfl 51 (.tmp 17) rfl g17 rfl _ (pkC ((t : Int),wy)) _ (HK17.out.below hW hl17) Try.underlying51 rfl jY ?_)
                                go_wp2;exact j0 rfl rfl rfl
                              case o6 =>
                                intro W hW;rintro _ rfl;rintro _ rfl;rintro _ rfl;change wpList _ _ _ _ _ _
                                have hsW:=hW.size
                                go_wp2_with fail
                                refine (rs_step W.heap.size p HF.out q W (lD (HP.out.below (HBr.out.trans (hW.mono hsr) |>.mono hB0)) (by omega)) ((HQm.out.below hW (Nat.le_refl _)).ok) HG.out (Nat.le_refl _) (t : Int) HTI.out wy).mono ?_
                                unfold StepR
                                rintro e9 w9 ⟨q9,rfl,hm9,hcf9,hb9⟩
                                have HB9:=kp hb9;have HM9:=kp hm9;have HC9:=kp hcf9;clear hb9 hm9 hcf9
                                go_wp2
                                exact jB rfl rfl rfl HB9.out ⟨q9,rfl,HM9.out.lessR (by omega),by rw [HC9.out,HQcf.out,HCc.out]⟩
                              case o7 =>
                                intro W hW;change wpList _ _ _ _ _ _
                                have hsW:=hW.size
                                go_wp2_with ((with_reducible show Sl 18);go_must (refine j3 rfl 79 rfl _ jU ?_);intro g9 w9 hg9 hk9 hw9;have HK9:=kp hk9;have HG9:=kp hg9;have HB9:=kp hw9;clear hk9 hw9 hg9)
                                exact jB rfl rfl rfl HB9.out ⟨g9,rfl,HK9.out,by have:=HG9.out;omega⟩
                            case hend =>
                              intro W hW;rintro _ rfl;rintro _ rfl;rintro _ rfl;rintro _ rfl;rintro _ rfl;rintro _ rfl;rintro _ ⟨c,rfl,hcm,hccf⟩;rintro _ ⟨g18,rfl,hk18,hg18⟩
                              simp only [given,jF,List.set,List.drop]
                              have hzW0:=hW.size
                              have hc16 : c.ow.length = 16:=by have h:=HGc.out.owns;rw [← hccf] at h;exact h
                              have HC16:=kp hc16;have HCcf:=kp hccf;have HCm0:=kp hcm;have HK180:=kp hk18;have HWW:=kp hW;have HG18:=kp hg18
                              clear hW hcm hccf hk18 hc16 hg18
                              go_wp2_with ((with_reducible show Sn);go_must (refine j4 rfl 79 (.tmp 18) (.tmp 97) rfl g18 (rcC c) rfl rfl _ _ HK180.out (by rw [jJ HC16.out];exact j5) (by rw [jJ HC16.out];rfl) (l0 c) ?_);intro w9 hk9 hgr9 hz9;have HK18:=kp hk9;have HGr9:=kp hgr9;clear hk9 hgr9 hz9)
                              have HCm9 : Kept (RMine w9 w.heap.size c):=kp (HCm0.out.held (Held.of_grown (S:=fun k => k < W.heap.size ∧ k ≠ g18) HGr9.out fun _ hk => ⟨hk.1,fun e => hk.2 (Option.some.inj e)⟩) fun k hk ht => ⟨hk,fun e => by rw [e,HK180.out.ty] at ht;rcases ht with ht | ht | ht <;> exact absurd ht (by decide)⟩)
                              have hW9 : Below wr.heap.size wr w9:=HWW.out.grown HGr9.out hzW0 (fun k e => by cases e;exact HG18.out)
                              have HN18 : Kept (¬ RkT r g18):=kp (HM.out.pt.other HG18.out)
                              have hl18:=HK18.out.lt
                              obtain ⟨W9,hW9e⟩ : ∃ y,y = w9:=⟨_,rfl⟩
                              subst hW9e
                              clear HWW HCm0 HK180 HGr9 hzW0 HG18
                              have hW : Below wr.heap.size wr W9:=hW9
                              have HM_:=kp (HM.out.below hW (Nat.le_refl _));have HS_:=kp (HS.out.trans (RkS.below (r:=r) hW (Nat.le_refl _)));have HA_:=kp (HA.out.below hW (Nat.le_refl _));have HPp_:=kp (HPp.out.below hW (Nat.le_refl _));have HPo_:=kp (HPo.out.below hW (Nat.le_refl _));have HQm_:=kp (HQm.out.below hW (Nat.le_refl _));have HK2_:=kp (HK2.out.below hW h2r);have HBr_:=kp (HBr.out.trans (hW.mono hsr));have HK17_:=kp (HK17.out.below hW hl17)
                              have hzW:=hW.size
                              have hsr_ : w.heap.size ≤ W9.heap.size:=by omega
                              have h2r_ : g2 < W9.heap.size:=by omega
                              have hgA_ : gA < W9.heap.size:=by omega
                              have hgP_ : gP < W9.heap.size:=by omega
                              clear hW HM HS HA HPp HPo HQm HK2 HBr hsr h2r hgA hgP hW9 HK17
                              obtain ⟨wr,hwr⟩ : ∃ y,y = W9:=⟨_,rfl⟩
                              subst hwr
                              have HM:=kp HM_.out;have HS:=kp HS_.out;have HA:=kp HA_.out;have HPp:=kp HPp_.out;have HPo:=kp HPo_.out;have HQm:=kp HQm_.out;have HK2:=kp HK2_.out;have HBr:=kp HBr_.out;have HK17:=kp HK17_.out
                              have hsr:=hsr_;have h2r:=h2r_;have hgA:=hgA_;have hgP:=hgP_
                              clear HM_ HS_ HA_ HPp_ HPo_ HQm_ HK2_ HBr_ hsr_ h2r_ hgA_ hgP_ hzW HK17_
                              have hl17:=HK17.out.lt
                              have hl18:=HK18.out.lt
                              (try simp only [lH])
                              go_wp2
                              have HCm:=kp HCm9.out
                              clear HCm9
                              go_loopw [19,20] (fun v19 v20 wx => ∃ k : Nat,k ≤ s1.all.length ∧ v19 = .bool (K.has (s1.all.take k) cc) ∧ v20 = .int .i64 (k : Int) ∧ Below wr.heap.size wr wx) (fun _ v20 _ => s1.all.length - (intOf v20).toNat)
                              case atStart => exact ⟨0,by omega,rfl,rfl,Below.refl _ _⟩
                              case round =>
                                obtain ⟨k,hk,rfl,rfl,hW⟩:=hrel
                                by_cases hkl : (k : Int) < (r.an : Int)
                                · have hkl2 : k < s1.all.length:=by omega
                                  obtain ⟨ek,hek⟩ : ∃ y,s1.all[k]? = some y:=⟨_,List.getElem?_eq_getElem hkl2⟩
                                  have HMore:=kp (K.has_more hek cc)
                                  cases hmet : K.has (s1.all.take k) cc with
                                  | true =>
                                    have HT : Kept (K.has (s1.all.take (k + 1)) cc = true):=kp (by rw [HMore.out,hmet];rfl)
                                    clear hmet hek
                                    go_wp2
                                    go_quiet (fail)
                                    go_wp2
                                    go_roundw
                                    case rel => exact ⟨k + 1,by omega,by rw [HT.out],by go_num,below_drewN hW _⟩
                                    case measure => simp [intOf];omega
                                  | false =>
                                    obtain ⟨b,hb⟩ : ∃ b,decide (ek.cf = cc) = b:=⟨_,rfl⟩
                                    have HT : Kept (K.has (s1.all.take (k + 1)) cc = b):=kp (by rw [HMore.out,hmet,hb];rfl)
                                    obtain ⟨qk,xk,hqk,hqkcf,hqkm,hqk16,hxk1,hxk2,hxk3⟩:=HM.out.at hek
                                    clear hxk1 hxk2 hxk3 xk
                                    have HQk:=kp hqk;have HQkm:=kp (hqkm.below hW (Nat.le_refl _));have HQk16:=kp hqk16
                                    have HQk8 : Kept (∀ l ∈ qk.sls,l.length = 8):=kp (qO (by rw [hqkcf];exact HInv.out.good _ (List.mem_of_getElem? hek)) hqkm.ok)
                                    have HC8 : Kept (∀ l ∈ c.sls,l.length = 8):=kp (qO (by rw [HCcf.out];exact HGc.out) HCm.out.ok)
                                    have HBd : Kept (b = true ↔ qk.cf = c.cf):=kp (by rw [← hb,hqkcf,HCcf.out,decide_eq_true_eq])
                                    have HX:=kp hW
                                    have HA:=kp (HA.out.below hW (Nat.le_refl _));have HCm:=kp (HCm.out.below hW (Nat.le_refl _));have HK18:=kp (HK18.out.below hW hl18)
                                    have hl18:=HK18.out.lt
                                    clear hmet hek hb hqk hqkcf hqkm hqk16 hW
                                    go_wp2
                                    apply jC 8 (.is (.bool false) :: .is (.bool false) :: .is _ :: .is _ :: .is (.pointer (some ⟨gA,off + k * 18,none⟩)) :: .is (rcA qk) :: .is (rcA c) :: .is (.bool b) :: [])
                                      [[],[(0,104)],[(1,105)],[(1,105)],[(2,106),(3,107),(1,105)],[(4,108),(1,105)],[(1,105)],[(5,109),(6,110),(1,105)],[(1,105),(7,111)],[(8,112)]]
                                      [(0,104),(1,105),(2,106),(3,107),(4,108),(5,109),(6,110),(7,111)] (by kernel_rfl) (by kernel_rfl) (by kernel_rfl) (by kernel_rfl) (by kernel_rfl)
                                    case hob =>
                                      refine ⟨?o0,?o1,?o2,?o3,?o4,?o5,?o6,?o7,trivial⟩
                                      case o0 => intro W hW;change wpList _ _ _ _ _ _;go_wp2;exact j0 rfl rfl rfl
                                      case o1 => intro W hW;rintro _ rfl;change wpList _ _ _ _ _ _;go_wp2;exact j0 rfl rfl rfl
                                      case o2 => intro W hW;rintro _ rfl;change wpList _ _ _ _ _ _;go_wp2;exact j0 rfl rfl rfl
                                      case o3 => intro W hW;rintro _ rfl;change wpList _ _ _ _ _ _;go_wp2;exact j0 rfl rfl rfl
                                      case o4 => intro W hW;rintro _ rfl;rintro _ rfl;rintro _ rfl;change wpList _ _ _ _ _ _;go_wp2;exact j0 rfl rfl rfl
                                      case o5 =>
                                        intro W hW;rintro _ rfl;rintro _ rfl;change wpList _ _ _ _ _ _
                                        go_must (refine jL rfl 79 (.tmp 108) rfl ⟨gA,off + k * 18,none⟩ rfl (rcC qk) _ ((HA.out.below hW (Nat.le_refl _)).rcAt HQk.out HQk16.out) Try.underlying79 rfl (by rw [jJ HQk16.out];exact j5) ?_)
                                        go_wp2;exact j0 rfl rfl rfl
                                      case o6 =>
                                        intro W hW;rintro _ rfl;change wpList _ _ _ _ _ _
                                        go_must (refine jL rfl 79 (.tmp 18) rfl ⟨g18,0,none⟩ rfl (rcC c) _ (fun j v hv => by rw [Addr.add_mid,Nat.zero_add,(HK18.out.below hW hl18).cell];exact hv) Try.underlying79 rfl (by rw [jJ HC16.out];exact j5) ?_)
                                        go_wp2;exact j0 rfl rfl rfl
                                      case o7 =>
                                        intro W hW;rintro _ rfl;rintro _ rfl;rintro _ rfl;change wpList _ _ _ _ _ _
                                        have hsW:=hW.size
                                        go_wp2_with fail
                                        refine (rs_same W.heap.size qk c W ((HQkm.out.below hW (Nat.le_refl _)).ok) ((HCm.out.below hW (Nat.le_refl _)).ok) (Nat.le_refl _) HQk8.out HC8.out HQk16.out HC16.out b HBd.out).mono ?_
                                        rintro e9 w9 ⟨rfl,hb9⟩
                                        have HB9:=kp hb9;clear hb9
                                        go_wp2
                                        exact jB rfl rfl rfl HB9.out rfl
                                    case hend =>
                                      intro W hW;rintro _ rfl;rintro _ rfl;rintro _ rfl;rintro _ rfl;rintro _ rfl;rintro _ rfl;rintro _ rfl;rintro _ rfl
                                      simp only [given,jF,List.set,List.drop]
                                      have hWx:=HX.out.trans (hW.mono HX.out.size)
                                      clear hW
                                      go_wp2
                                      go_roundw
                                      case rel => exact ⟨k + 1,by omega,by rw [HT.out],by go_num,hWx⟩
                                      case measure => simp [intOf];omega
                                · have hke : k = s1.all.length:=by omega
                                  subst hke
                                  rw [List.take_length]
                                  have HM_:=kp (HM.out.below hW (Nat.le_refl _));have HS_:=kp (HS.out.trans (RkS.below (r:=r) hW (Nat.le_refl _)));have HA_:=kp (HA.out.below hW (Nat.le_refl _));have HPp_:=kp (HPp.out.below hW (Nat.le_refl _));have HPo_:=kp (HPo.out.below hW (Nat.le_refl _));have HQm_:=kp (HQm.out.below hW (Nat.le_refl _));have HK2_:=kp (HK2.out.below hW h2r);have HBr_:=kp (HBr.out.trans (hW.mono hsr));have HK17_:=kp (HK17.out.below hW hl17);have HK18_:=kp (HK18.out.below hW hl18);have HCm_:=kp (HCm.out.below hW (Nat.le_refl _))
                                  have hzW:=hW.size
                                  have hsr_ : w.heap.size ≤ wr.heap.size:=by omega
                                  have h2r_ : g2 < wr.heap.size:=by omega
                                  have hgA_ : gA < wr.heap.size:=by omega
                                  have hgP_ : gP < wr.heap.size:=by omega
                                  clear hW HM HS HA HPp HPo HQm HK2 HBr hsr h2r hgA hgP  HK17 HK18 HCm
                                  obtain ⟨wr,hwr⟩ : ∃ y,y = wr:=⟨_,rfl⟩
                                  subst hwr
                                  have HM:=kp HM_.out;have HS:=kp HS_.out;have HA:=kp HA_.out;have HPp:=kp HPp_.out;have HPo:=kp HPo_.out;have HQm:=kp HQm_.out;have HK2:=kp HK2_.out;have HBr:=kp HBr_.out;have HK17:=kp HK17_.out;have HK18:=kp HK18_.out;have HCm:=kp HCm_.out
                                  have hsr:=hsr_;have h2r:=h2r_;have hgA:=hgA_;have hgP:=hgP_
                                  clear HM_ HS_ HA_ HPp_ HPo_ HQm_ HK2_ HBr_ hsr_ h2r_ hgA_ hgP_ hzW HK17_ HK18_ HCm_
                                  have hl17:=HK17.out.lt
                                  have hl18:=HK18.out.lt
                                  cases hmet : K.has s1.all cc with
                                  | true =>
                                    have HPut : Kept (K.put most s1 nx = s1):=kp (by unfold K.put;rw [if_pos (by rw [HNc.out.1];exact hmet)])
                                    clear hmet
                                    go_wp2
                                    go_roundw
                                    case rel => exact ⟨j + 1,r,cs,ps,s1,by omega,by rw [HAA.out];try rw [hln.1],by rw [HPA.out];try rw [hln.2.1],rfl,by go_num,HM.out,HS.out,HInv.out,HEi.out,by rw [HWn.out,HPut.out]⟩
                                    case measure => simp [intOf];omega
                                  | false =>
                                    have hnm : ¬ K.has s1.all nx.cf = true:=by rw [HNc.out.1,hmet];simp
                                    by_cases hfull : most ≤ (s1.all.length : Int)
                                    · have HPut : Kept (K.put most s1 nx = ⟨s1.all,true⟩):=kp (by unfold K.put;rw [if_neg hnm,if_pos hfull])
                                      have hfa : most ≤ (r.an : Int):=by omega
                                      clear hmet hnm
                                      go_wp2
                                      go_roundw
                                      case rel => exact ⟨j + 1,r,cs,ps,⟨s1.all,true⟩,by omega,by rw [HAA.out];try rw [hln.1],by rw [HPA.out];try rw [hln.2.1],rfl,by go_num,⟨HM.out.pt,HM.out.cfs,HM.out.pks⟩,HS.out,by rw [← HPut.out];exact HInN.out.1,HEi.out,by rw [HWn.out,HPut.out]⟩
                                      case measure => simp [intOf];omega
                                    · have HPut : Kept (K.put most s1 nx = ⟨s1.all ++ [nx],s1.left⟩):=kp (by unfold K.put;rw [if_neg hnm,if_neg hfull])
                                      have hfa : ¬ most ≤ (r.an : Int):=by omega
                                      have hpn : pk.n ≤ 5000:=by have h1:=HPo.out.1;rw [HPl.out] at h1;have h2:=HLenP.out;omega
                                      clear hmet hnm
                                      go_wp2_with (first
                                        | ((with_reducible show Sl 119);go_must (refine j1 rfl 79 (.tmp 18) rfl g18 rfl _ (rcC c) _ HK18.out Try.underlying79 rfl (by rw [jJ HC16.out];exact j5) ?_))
                                        | ((with_reducible show Sl 120);go_must (refine j8 rfl 74 79 (.tmp 119) rfl 18 Try.underlying74 zD (by decide) (by decide) (.agg (rcC c).toArray) (rcC c) rfl rfl (jJ HC16.out) ?_);intro g3 w3 hg3 hk3 hb3;have HK3:=kp hk3;have HB3:=kp hb3;have hs3:=hb3.size;have HM3:=kp (HM.out.pt.below hb3 (Nat.le_refl _));have HA3:=kp ((show OwnT 18 rcV wr w.heap.size 79 (some ⟨gA,off,none⟩) s1.all.length r.ac cs by rw [← hln.1];exact HA.out).below hb3 (Nat.le_refl _));have HC3:=kp (HCm.out.below hb3 (Nat.le_refl _));clear hk3 hb3)
                                        | (at_builtin;(with_reducible show Sl 121);go_must (refine jS (B:=w.heap.size) rfl (.tmp 118) (.tmp 120) 74 rfl Try.underlying74 zZ rfl QK rfl HA3.out c ⟨g3,0,none⟩ 1 rfl (fun j hj => by rw [Addr.add_mid,Nat.zero_add,HK3.out.cell];exact QL HC16.out hj) (by unfold maxLen;omega) (by omega) (by omega) ?_);intro A4 c4 w4 hown4 hgr4;have HO4:=kp hown4;have HG4:=kp hgr4;clear hown4 hgr4))
                                      obtain ⟨hp4,hs4,hq4⟩:=HM3.out.alled (by rw [HAA.out,hln.1];exact HG4.out) HO4.out (fun y hy => by
                                        rcases List.mem_append.1 hy with h | h
                                        · exact HM3.out.confs y h
                                        · rw [List.mem_singleton.1 h];exact ⟨HC3.out,HC16.out⟩)
                                      obtain ⟨r4,hr4⟩ : ∃ y : Rr,y = { r with AA:=A4,an:=s1.all.length + 1,ac:=c4 }:=⟨_,rfl⟩
                                      rw [← hr4] at hp4 hs4
                                      have HR4 : Kept (r4.AA = A4 ∧ r4.an = s1.all.length + 1 ∧ r4.ac = c4 ∧ r4.PA = some ⟨gP,offP,none⟩ ∧ r4.pn = s1.all.length ∧ r4.pc = r.pc):=kp (by rw [hr4];exact ⟨rfl,rfl,rfl,HPA.out,hln.2.1,rfl⟩)
                                      have HS14:=kp ((RkS.below (r:=r) HB3.out (Nat.le_refl _)).trans hs4)
                                      have hk174:=HS14.out.box HK17.out HN17.out
                                      have HPo4 : Kept (OwnT 2 pkV w4 w.heap.size 51 pk.A pk.n pk.cap pk.l):=kp (hp4.picks pk (List.mem_of_getElem? HPi.out))
                                      have HPp4 : Kept (OwnT 1 psV w4 w.heap.size 27 (some ⟨gP,offP,none⟩) s1.all.length r.pc ps):=kp (by have h:=hp4.paths;rw [HR4.out.2.2.2.1,HR4.out.2.2.2.2.1,HR4.out.2.2.2.2.2] at h;exact h)
                                      have HP4:=kp hp4;have HS4:=kp (HS.out.trans HS14.out);have HK174:=kp hk174.1
                                      have hs4z:=HS14.out.1.size
                                      have hw4 : w.heap.size ≤ w4.heap.size:=by omega
                                      have hl174:=hk174.1.lt
                                      clear hp4 hs4 hq4 hr4 hk174
                                      go_wp2
                                      apply qM 9 (.is (.slice (some ⟨gP,offP,none⟩) s1.all.length r.pc) :: Fact.empty12 w4.heap.size :: .is _ :: .is _ :: .is (.pointer (some ⟨gP,offP + i,none⟩)) :: .is (.slice pk.A pk.n pk.cap) :: Fact.picks w4.heap.size pk.n pk.l :: .is (.agg (pkC ((t : Int),wy)).toArray) :: Fact.elem 51 (pkC ((t : Int),wy)) :: [])
                                        [[],[],[],[],[(2,124),(3,125)],[(4,126)],[(1,123),(5,127)],[],[(7,129)],[(6,128),(8,130)],[(9,131)],[(0,122),(10,132)],[(11,133)]]
                                        [(0,122),(1,123),(2,124),(3,125),(4,126),(5,127),(6,128),(7,129),(8,130)] (o0:=_) (c0:=.slice (some ⟨gP,offP,none⟩) s1.all.length r.pc) (hm:=by kernel_rfl) (hok:=by kernel_rfl) (ht:=by kernel_rfl) (hn:=by kernel_rfl) (hev:=by kernel_rfl) (ho0:=rfl) (hsel:=by kernel_rfl) (hfree:=by kernel_rfl) (hrd:=by kernel_rfl) (hw0:=by rfl) (hy0:=fun _ => by rfl) (hR0:=rfl)
                                      case hob =>
                                        refine ⟨?o0,?o1,?o2,?o3,?o4,?o5,?o6,?o7,?o8,trivial⟩
                                        case o0 => intro W hW;change wpList _ _ _ _ _ _;go_wp2;exact j0 rfl rfl rfl
                                        case o1 =>
                                          intro W hW;change wpList _ _ _ _ _ _
                                          have hbs:=hW.size
                                          clear hW
                                          have HB5:=kp ((Below.refl W.heap.size W).alloc (Nat.le_refl _) (.cells #[] 51))
                                          go_wp2
                                          exact jB rfl rfl rfl HB5.out ⟨W.heap.size,rfl,OwnR.empty _ _ _ _ _ (by omega)⟩
                                        case o2 => intro W hW;change wpList _ _ _ _ _ _;go_wp2;exact j0 rfl rfl rfl
                                        case o3 => intro W hW;change wpList _ _ _ _ _ _;go_wp2;exact j0 rfl rfl rfl
                                        case o4 => intro W hW;rintro _ rfl;rintro _ rfl;change wpList _ _ _ _ _ _;go_wp2;exact j0 rfl rfl rfl
                                        case o5 =>
                                          intro W hW;rintro _ rfl;change wpList _ _ _ _ _ _
                                          have hcP : W.cell? ⟨gP,offP + i,none⟩ = some (.slice pk.A pk.n pk.cap):=by have h:=(HPp4.out.below hW (Nat.le_refl _)).cellAt HPi.out (show 0 < 1 by omega);rw [Nat.mul_one] at h;exact h
                                          go_wp2;exact j0 rfl rfl rfl
                                        case o6 =>
                                          intro W hW;rintro _ ⟨ge,rfl,hoe⟩;rintro _ rfl;change wpList _ _ _ _ _ _
                                          have hsW:=hW.size
                                          have HOe:=kp hoe;have HRc:=kp ((HPo4.out.below hW (Nat.le_refl _)).recs)
                                          clear hoe
                                          go_wp2_with (at_builtin;go_must (refine lM rfl (.tmp 123) (.tmp 127) 27 rfl w4.heap.size 51 2 _ 16 Try.underlying27 xC rfl (by decide) pkV yI ge rfl HOe.out pk.A pk.n pk.cap _ pk.l rfl HRc.out (by unfold maxLen;omega) (by omega) hsW ?_);intro g9 c9 w9 hown9 hb9 _;have HO9:=kp hown9;have HB9:=kp hb9;clear hown9 hb9)
                                          exact jB rfl rfl rfl HB9.out ⟨g9,c9,rfl,HO9.out⟩
                                        case o7 =>
                                          intro W hW;change wpList _ _ _ _ _ _
                                          go_must (refine j1 rfl 51 (.tmp 17) rfl g17 rfl _ (pkC ((t : Int),wy)) _ (HK174.out.below hW hl174) Try.underlying51 rfl jY ?_)
                                          go_wp2;exact j0 rfl rfl rfl
                                        case o8 =>
                                          intro W hW;rintro _ rfl;change wpList _ _ _ _ _ _
                                          go_wp2_with ((with_reducible show Sl 130);go_must (refine j8 rfl 27 51 (.tmp 129) rfl 2 Try.underlying27 yP (by decide) (by decide) (.agg (pkC ((t : Int),wy)).toArray) (pkC ((t : Int),wy)) rfl rfl rfl ?_);intro g6 w6 hg6 hk6 hb6;have HK6:=kp hk6;have HB6:=kp hb6;clear hk6 hb6)
                                          exact jB rfl rfl rfl HB6.out ⟨g6,rfl,HK6.out⟩
                                      case hend =>
                                        intro W hW;rintro _ rfl;rintro _ ⟨ge,rfl,hoe⟩;rintro _ rfl;rintro _ rfl;rintro _ rfl;rintro _ rfl;rintro _ ⟨gn,cn,rfl,hon⟩;rintro _ rfl;rintro _ ⟨gu,rfl,hku⟩
                                        simp only [given,jF,List.set,List.drop]
                                        have HP5:=kp (HP4.out.below hW (Nat.le_refl _));have HS5:=kp (HS4.out.trans (RkS.below (r:=r4) hW (Nat.le_refl _)));have HPp5:=kp (HPp4.out.below hW (Nat.le_refl _));have HO5:=kp hon.tail;have HKu:=kp hku;have HBw:=kp hW
                                        have hsW:=hW.size
                                        clear hW hoe hon hku
                                        go_wp2_with (first
                                          | ((with_reducible show wpList _ _ _ (⟨some 131,_,_,_,_,_⟩ :: _) _ _);at_builtin;go_must (refine jS rfl (.tmp 128) (.tmp 130) 27 rfl Try.underlying27 xC rfl yI rfl HO5.out ((t : Int),wy) ⟨gu,0,none⟩ 1 rfl (fun j hj => by rw [Addr.add_mid,Nat.zero_add,HKu.out.cell];exact vE _ j hj) (by unfold maxLen;omega) (by omega) hsW ?_);intro A7 c7 w7 hown7 hgr7;have HO7:=kp hown7;have HB7 : Kept (Below w4.heap.size w4 w7):=kp (HBw.out.grown hgr7.1 hsW (fun k hk => (HO5.out.block k hk).1));have hs7:=HB7.out.size;clear hown7 hgr7)
                                          | ((with_reducible show Sl 132);go_must (refine j8 rfl 75 27 (.tmp 131) rfl 1 Try.underlying75 zH (by decide) (by decide) (.slice A7 (pk.n + 1) c7) [.slice A7 (pk.n + 1) c7] rfl rfl rfl ?_);intro g8 w8 hg8 hk8 hb8;have HK8:=kp hk8;have HO8:=kp (HO7.out.below hb8 (Nat.le_refl _));have HB8:=kp (HB7.out.trans (hb8.mono hs7));have hs8:=HB8.out.size;have HP8:=kp (HP4.out.below HB8.out (Nat.le_refl _));have HPp8:=kp (HPp4.out.below HB8.out (Nat.le_refl _));have HS8:=kp (HS4.out.trans (RkS.below (r:=r4) HB8.out (Nat.le_refl _)));clear hk8 hb8)
                                          | ((with_reducible show wpList _ _ _ (⟨some 133,_,_,_,_,_⟩ :: _) _ _);at_builtin;go_must (refine jS rfl (.tmp 122) (.tmp 132) 75 rfl Try.underlying75 vF rfl QN rfl HPp8.out ⟨A7,pk.n + 1,c7,pk.l ++ [((t : Int),wy)]⟩ ⟨g8,0,none⟩ 1 rfl (fun j hj => by rw [Addr.add_mid,Nat.zero_add,HK8.out.cell,show j = 0 by omega];rfl) (by unfold maxLen;omega) (by omega) (by omega) ?_);intro A9 c9 w9 hown9 hgr9;have HO9:=kp hown9;have HG9:=kp hgr9;clear hown9 hgr9))
                                        refine NoPanic.normal ?_
                                        obtain ⟨hp9,hs9⟩:=HP8.out.pathed (by rw [HR4.out.2.2.2.1,HR4.out.2.2.2.2.1,HR4.out.2.2.2.2.2];exact HG9.out) HO9.out (fun y hy => by
                                          rcases List.mem_append.1 hy with h | h
                                          · exact HP8.out.picks y h
                                          · rw [List.mem_singleton.1 h];exact HO8.out.less hw4)
                                        obtain ⟨r9,hr9⟩ : ∃ y : Rr,y = { r4 with PA:=A9,pn:=s1.all.length + 1,pc:=c9 }:=⟨_,rfl⟩
                                        rw [← hr9] at hp9 hs9
                                        have HR9 : Kept (r9.AA = A4 ∧ r9.an = s1.all.length + 1 ∧ r9.ac = c4 ∧ r9.PA = A9 ∧ r9.pn = s1.all.length + 1 ∧ r9.pc = c9):=kp (by rw [hr9];exact ⟨HR4.out.1,HR4.out.2.1,HR4.out.2.2.1,rfl,rfl,rfl⟩)
                                        have HM9 : Kept (RkM w9 w.heap.size r9 ⟨s1.all ++ [nx],s1.left⟩ (cs ++ [c]) (ps ++ [⟨A7,pk.n + 1,c7,pk.l ++ [((t : Int),wy)]⟩])):=kp ⟨hp9,by simp only [List.map_append,List.map_cons,List.map_nil,HM.out.cfs,HCcf.out,HNc.out.1],by simp only [List.map_append,List.map_cons,List.map_nil,HM.out.pks,HPl.out,HNc.out.2]⟩
                                        have HS9:=kp (HS8.out.trans hs9)
                                        clear hp9 hs9 hr9
                                        go_wp2
                                        go_roundw
                                        case rel => exact ⟨j + 1,r9,_,_,⟨s1.all ++ [nx],s1.left⟩,by omega,by rw [HR9.out.1,HR9.out.2.1,HR9.out.2.2.1];try rw [hln.1],by rw [HR9.out.2.2.2.1,HR9.out.2.2.2.2.1,HR9.out.2.2.2.2.2];try rw [hln.2.1],rfl,by go_num,HM9.out,HS9.out,by rw [← HPut.out];exact HInN.out.1,by have h:=HInN.out.2;rw [HPut.out] at h;exact h,by rw [HWn.out,HPut.out]⟩
                                        case measure => simp [intOf];omega
                          · have hjn : j = 1:=by omega
                            subst hjn
                            go_wp2
                            go_roundw
                            case rel => exact ⟨t + 1,r,cs,ps,by omega,by rw [HAA.out];try rw [hln.1],by rw [HPA.out];try rw [hln.2.1],by rw [HWs.out,HS1.out],by go_num,by rw [HWs.out,HS1.out];exact HM.out,HS.out⟩
                            case measure => simp [intOf];omega
              · have htn : t = nt:=by omega
                have HSu : Kept (K.st p most (i + 1) = st):=kp (by rw [K.st_succ,← HEe.out,← HS0.out];unfold K.goOn;rw [HNl.out,HST.out,htn])
                have hge : nt ≤ t:=by omega
                clear hlt htn
                go_wp2
                go_roundw
                case rel => exact ⟨i + 1,r,cs,ps,by have:=hln.2.2;rw [HSu.out];omega,by rw [HAA.out],by rw [HPA.out],by rw [HSu.out],by go_num,by rw [HSu.out];exact HM.out,HS.out,fun j hj => by
                  by_cases e2 : j = i
                  · subst e2;exact ⟨hil0,by rw [← HEe.out];exact HR.out⟩
                  · exact HAll.out j (by omega)⟩
                case measure => simp [intOf];omega
      · have hge : (K.st p most i).all.length ≤ i:=by omega
        cases hl : (K.st p most i).left with
        | true =>
          have HOut : Kept (K.Out p most [] 0):=kp ⟨i,HAll.out,.inr ⟨hge,rfl,by rw [hl];rfl⟩⟩
          clear hl
          go_wp2
          (try simp only [Exit.inBlock,Exit.then])
          refine bodyPost_ret (results_tmp2 rfl _ _ _) rfl ?_
          exact ⟨none,0,0,[],0,rfl,OwnT.nil _ _ _ _ _,by omega,HOut.out,HBr.out⟩
        | false =>
          have HOut : Kept (K.Out p most [] 2):=kp ⟨i,HAll.out,.inr ⟨hge,rfl,by rw [hl];rfl⟩⟩
          clear hl
          go_wp2
          (try simp only [Exit.inBlock,Exit.then])
          refine bodyPost_ret (results_tmp2 rfl _ _ _) rfl ?_
          exact ⟨none,0,0,[],2,rfl,OwnT.nil _ _ _ _ _,by omega,HOut.out,HBr.out⟩
end Go.Proofs.Ytnaomfmmkhgbhaa
