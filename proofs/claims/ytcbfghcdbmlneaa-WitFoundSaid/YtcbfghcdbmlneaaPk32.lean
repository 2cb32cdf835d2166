/- SeekP3, Typed, SemLaw3, SemFill. -/
import Derived.Test.YtcbfghcdbmlneaaSeekP2
import Derived.Deep.MidRow
import Derived.Test.YtcbfghcdbmlneaaPk9
import Derived.Test.YtcbfghcdbmlneaaPk19
namespace Go.Proofs.Ytcbfghcdbmlneaa
open Go.RowKit
theorem Blk.sets {g : Nat} {t : TypeId} : ∀ (vs : List Value) (o : Nat) (cur : List Value) (w : World),Blk w g t cur →
    ∃ cur',Blk (w.setCells g o vs) g t cur' ∧ cur'.length = cur.length ∧ (∀ i,o + vs.length ≤ i → cur'[i]? = cur[i]?) ∧ w.grownBy (w.setCells g o vs) (some g)
  | [],o,cur,w,h => ⟨cur,h,rfl,fun _ _ => rfl,World.grownBy.refl w _⟩
  | v :: r,o,cur,w,h => by
    obtain ⟨cur',h1,h2,h3,h4⟩:=Blk.sets r (o + 1) _ _ (h.set o v)
    refine ⟨cur',h1,by rw [h2,List.length_set],fun i hi => ?_,?_⟩
    · rw [List.length_cons] at hi
      rw [h3 i (by omega),List.getElem?_set_ne (by omega)]
    · have hg:=qF w g o v
      exact ⟨h4.os.trans hg.os,h4.tape.trans hg.tape,h4.output.trans hg.output,Nat.le_trans hg.size h4.size,fun i hi hne => (h4.block i (Nat.lt_of_lt_of_le hi hg.size) hne).trans (hg.block i hi hne)⟩
theorem uH {P : Program} {ops : Array Oper} {rest : List Oper} {op : Oper} {a : Act} {w : World} {Q : Exit → Act → World → Prop} (hgd : op.guard = none) (ty : TypeId) (x y : Operand) (ho : op.op = .store ty x y)
    (b o : Nat) (cs : List Value) (hx : a.eval x = .pointer (some ⟨b,o,none⟩)) (hy : a.eval y = .agg cs.toArray) (t : TypeId) (cur : List Value) (hb : Blk w b t cur) (hl : o + cs.length ≤ cur.length)
    (hi : (P.info? ty).map (·.size) = some cs.length) (h1 : ∀ v ∈ cs,v.oneCell' = true)
    (h : ∀ w' cur',Blk w' b t cur' → cur'.length = cur.length → (∀ i,o + cs.length ≤ i → cur'[i]? = cur[i]?) → w.grownBy w' (some b) → wpList P ops Q rest (a.put op.dst undef) w') : wpList P ops Q (op :: rest) a w:=by
  obtain ⟨cur',h2,h3,h4,h5⟩:=Blk.sets cs o cur w hb
  refine wpList_store_mid hgd ty x y ho b o cs.toArray hx hy (fun j hj => ⟨?_,hb.frozen _⟩) (by simpa using hi) (all_oneCell_toArray h1) (h _ cur' (by simpa using h2) h3 h4 (by simpa using h5))
  have hj' : j < cs.length:=by simpa using hj
  rw [hb.cell,List.getElem?_eq_getElem (by omega)];rfl
theorem OwnT.uncons {α : Type} {sz : Nat} {f : α → Nat → Value} {w : World} {B m n cap : Nat} {e : TypeId} {A : Option Addr} {x : α} {l : List α} (h : OwnT sz f w B e A m cap (x :: l)) (hn : m = n + 1) :
    ∃ g off cur,A = some ⟨g,off,none⟩ ∧ Blk w g e cur ∧ B ≤ g ∧ off + sz ≤ cur.length ∧ 1 ≤ cap ∧ cap ≤ maxLen ∧ n + 1 ≤ cap ∧ (∀ j,j < sz → cur[off + j]? = some (f x j)) ∧
      ∀ w' cur',Blk w' g e cur' → cur'.length = cur.length → (∀ i,off + sz ≤ i → cur'[i]? = cur[i]?) → OwnT sz f w' B e (some ⟨g,off + sz,none⟩) n (cap - 1) l ∧ (cap = 1 → OwnT sz f w' B e (some ⟨g,off,none⟩) 0 0 l):=by
  subst hn
  obtain ⟨h1,h2,h3,h4⟩:=h
  have hl : l.length = n:=by simpa using h1
  rcases h4 with ⟨_,hc⟩ | ⟨g,off,cur,rfl,hB,hb,hs,hc⟩
  · omega
  have hle : 1 * sz ≤ cap * sz:=Nat.mul_le_mul_right _ (by omega)
  refine ⟨g,off,cur,rfl,hb,hB,by omega,by omega,h3,h2,fun j hj => by have:=hc 0 x rfl j hj;simpa using this,fun w' cur' hb' hl' hk => ⟨⟨hl,by omega,by omega,.inr ⟨g,off + sz,cur',rfl,hB,hb',?_,fun k y hy j hj => ?_⟩⟩,fun h1c => ?_⟩⟩
  · have h6 : cap * sz = (cap - 1) * sz + sz:=by
      obtain ⟨c,rfl⟩ : ∃ c,cap = c + 1:=⟨cap - 1,by omega⟩
      rw [Nat.add_mul,Nat.add_sub_cancel,Nat.one_mul]
    omega
  · have h5:=hc (k + 1) y (by simpa using hy) j hj
    rw [Nat.add_mul] at h5
    rw [hk _ (by omega),← h5]
    congr 1;omega
  · have hl0 : l = []:=List.eq_nil_of_length_eq_zero (by omega)
    subst hl0
    exact ⟨rfl,Nat.le_refl _,by simp [maxLen],.inr ⟨g,off,cur',rfl,hB,hb',by omega,fun k y hy => by simp at hy⟩⟩
theorem YG : ∀ v ∈ Value.slice none 0 0 :: zeros 16,v.oneCell' = true:=by
  intro v hv
  rcases List.mem_cons.1 hv with rfl | hv
  · rfl
  · rw [List.eq_of_mem_replicate hv];rfl
set_option maxRecDepth 100000 in
set_option maxHeartbeats 3200000 in
theorem sk_next (B gS : Nat) (p : Pg) (most : Int) (r : Sr) (l : List K.En) (m : List (List Nat)) (q : Pc) (qs : List Pc) (w : World) (hm : SkP w B gS p most r l m (q :: qs)) :
    Calls Try.prog 53 #[.pointer (some ⟨gS,0,none⟩)] w fun e w' => e = .returned (pcA q) ∧ ∃ r',SkP w' B gS p most r' l m qs ∧ SkS w w' gS r r' ∧ r'.left = r.left ∧ Mine w' B q:=by
  have hcq:=hm.confs q (by simp)
  have H16:=kp hcq.2
  have H17:=kp (jW hcq.2)
  have HM:=kp hm
  have hS0:=hm.blk.lt
  obtain ⟨n,hn⟩ : ∃ n,qs.length = n:=⟨_,rfl⟩
  have hqn : r.qn = n + 1:=by rw [← hm.opn.1,List.length_cons,hn]
  obtain ⟨gO,off,cur,hQA,hbO,_,hoff,h1c,hcm,hnc,hcells,htail⟩:=hm.opn.uncons hqn
  have HBO:=kp hbO;have HCl:=kp hcells;have HTl:=kp htail;have HQ:=kp hcq.1
  have hlO:=hbO.lt
  have hc6 : w.cell? ⟨gS,6,none⟩ = some (.slice (some ⟨gO,off,none⟩) (n + 1) r.qc):=by rw [hm.blk.cell 6,show (srC p most r)[6]? = some (.slice r.QA r.qn r.qc) from rfl,hQA,hqn]
  have HC6:=kp hc6
  have HQA:=kp hQA;have HQN:=kp hqn
  have HOS:=kp (hm.opn.typed hm.blk (by decide))
  have HSO : Kept (gS ≠ gO):=kp fun e => HOS.out (by rw [HQA.out,e];rfl)
  clear hm hcq hbO hcells htail hQA hqn hc6 hn
  obtain ⟨cp,hcp⟩ : ∃ c,r.qc = c:=⟨_,rfl⟩
  have HCP:=kp hcp
  rw [hcp] at HC6 h1c hcm hnc HTl
  unfold maxLen at hcm
  clear hcp
  go_enter Try.func53,Try.ntmps53
  go_wp2_with (first
    | ((with_reducible show Sl 2);go_must (refine j7 rfl 91 rfl _ l7 ?_);intro g2 w1 hg2 hk1 hw1;have HK2:=kp hk1;have HW1:=kp hw1;have hs1:=hw1.size;have hl2:=hk1.lt;have HBO1:=kp (HBO.out.below hw1 hlO);have hc6 : w1.cell? ⟨gS,6,none⟩ = some (.slice (some ⟨gO,off,none⟩) (n + 1) cp):=(hw1.cell hS0).trans HC6.out;clear hk1 hw1)
    | ((with_reducible show Sl 9);go_must (refine qK rfl 91 (.tmp 8) rfl ⟨gO,off,none⟩ rfl (pcC q) _ (fun j v hv => by rw [Addr.add_mid,HBO1.out.cell,HCl.out j (by have:=(List.getElem?_eq_some_iff.1 hv).1;have:=H17.out;omega),← cfV_at H16.out (by have:=(List.getElem?_eq_some_iff.1 hv).1;have:=H17.out;omega)];exact hv) Try.underlying91 rfl (by rw [H17.out];exact jC) ?_))
    | ((with_reducible show Sl 3);go_must (refine j7 rfl 91 rfl _ l7 ?_);intro g3 w2 hg3 hk2 hw2;have HK3:=kp hk2;have HW2:=kp (HW1.out.trans (hw2.mono hs1));have hs2:=hw2.size;have HK22:=kp (HK2.out.below hw2 hl2);have hl3:=hk2.lt;have HN3 : Kept (w1.heap.size ≤ g3):=kp hg3;have HN2 : Kept (w.heap.size ≤ g2 ∧ g2 < w1.heap.size):=kp ⟨hg2,hl2⟩;have HS3 : Kept (g3 ≠ gS):=kp (by omega);have HS2 : Kept (g2 ≠ gS):=kp (by omega);clear hk2 hw2)
    | ((with_reducible show Sn);(refine j5 rfl 91 (.tmp 3) (.tmp 9) rfl g3 (pcC q) rfl rfl _ _ HK3.out (by rw [H17.out];exact jC) (by rw [H17.out];rfl) (jX q) ?_);intro w3 hk3 hgr3 hz3;have HK33:=kp hk3;have HW3:=kp (HW2.out.grown hgr3 (by omega) (fun k e => by cases e;omega));have HK23:=kp (HK22.out.grown hgr3 (fun e => by cases e;omega));have HBO3:=kp (HBO.out.below HW3.out hlO);have hc6 : w3.cell? ⟨gS,6,none⟩ = some (.slice (some ⟨gO,off,none⟩) (n + 1) cp):=(HW3.out.cell hS0).trans HC6.out;clear hk3 hgr3)
    | ((with_reducible show Sn);(refine uH rfl 91 (.tmp 15) (.tmp 14) rfl gO off (Value.slice none 0 0 :: zeros 16) rfl rfl _ _ HBO3.out hoff jC YG ?_);intro w4 cur4 hb4 hl4 hk4 hg4;have HW4:=kp (HW3.out);have HK23b:=kp HK23.out;have HB4:=kp hb4;have HL4:=kp hl4;have HT4:=kp hk4;have HG4:=kp hg4;have hc6 : w4.cell? ⟨gS,6,none⟩ = some (.slice (some ⟨gO,off,none⟩) (n + 1) cp):=HG4.out.cell hc6 (fun e => HSO.out (by cases e;rfl));have hz6 : w4.frozen? ⟨gS,6,none⟩ = false:=((HM.out.blk.below HW3.out hS0).grown hg4 (fun e => HSO.out (by cases e;rfl))).frozen 6;have HK34:=kp (HK33.out.grown hg4 (fun e => by cases e;have:=HN3.out;omega));have HK24:=kp (HK23.out.grown hg4 (fun e => by cases e;have:=HN2.out;omega));clear hb4 hl4 hk4 hg4)
    | ((with_reducible show Sl 24);go_must (refine j4 rfl 91 (.tmp 3) rfl g3 rfl _ (pcC q) _ (HK34.out.other ⟨gS,6,none⟩ _ HS3.out) Try.underlying91 rfl (by rw [H17.out];exact jC) ?_))
    | ((with_reducible show Sn);(refine j5 rfl 91 (.tmp 2) (.tmp 24) rfl g2 (pcC q) rfl rfl _ _ (HK24.out.other ⟨gS,6,none⟩ _ HS2.out) (by rw [H17.out];exact jC) (by rw [H17.out];rfl) (jX q) ?_);intro w6 hk6 hg6 hz6;have HK6:=kp hk6;have HG6:=kp hg6;have HZ6:=kp hz6;clear hk6 hg6 hz6))
  case inr =>
    have hcp1 : ¬ cp = 1:=by omega
    have HG6b:=HG6.out
    rw [if_neg hcp1] at HG6b
    refine bodyPost_ret (jP (P:=Try.prog) (fn:=Try.f53) rfl _ _ g2 91 (pcC q) _ rfl HK6.out Try.underlying91 rfl (by rw [H17.out];exact jC)) rfl ?_
    have hp3:=HM.out.below HW4.out (Nat.le_refl _)
    have hgr : Grew w3 w4 (.slice r.QA r.qn r.qc) (.slice (some ⟨gO,off + 17,none⟩) n (cp - 1)):=⟨by rw [HQA.out];exact HG4.out,.inl (by rw [HQA.out];rfl)⟩
    obtain ⟨hp5,ht5⟩:=hp3.opened hgr (HTl.out w4 cur4 HB4.out HL4.out HT4.out).1 (fun x hx => hp3.confs x (List.mem_cons_of_mem _ hx))
    have hz3:=HW4.out.size;have hz35:=ht5.1.size;have hN2:=HN2.out;have hz13 : w1.heap.size ≤ w3.heap.size:=by omega
    have hq5:=hp3.mine ht5.1 (fun k h1 h2 => ⟨h1,h2⟩) (HQ.out.below HW4.out (Nat.le_refl _))
    have hn2 : ¬ SkT r gS g2:=fun e => by have:=(HM.out.lt e).2;omega
    have hn5 : ¬ SkT { r with QA:=(some ⟨gO,off + 17,none⟩),qn:=n,qc:=(cp - 1) } gS g2:=fun e => by
      rcases ht5.2 g2 e with h | h
      · exact hn2 h
      · omega
    have hk25:=(HK23b.out.held ht5.1 ⟨by omega,hn2⟩)
    have hp6:=hp5.grown HG6b hn5 (LJ hk25)
    have hq6:=hq5.held (Held.of_grown (S:=fun k => k < (w4.setCell ⟨gS,6,none⟩ (.slice (some ⟨gO,off + 17,none⟩) n (cp - 1))).heap.size ∧ k ≠ g2) HG6b fun _ hk => ⟨hk.1,fun e => hk.2 (Option.some.inj e)⟩) fun k hk ht => ⟨hk,fun e => LJ hk25 (e ▸ ht)⟩
    refine ⟨rfl,_,hp6,⟨?_,fun k hk => ?_⟩,rfl,hq6⟩
    · refine (Held.of_below (S:=fun k => k < w.heap.size ∧ ¬ SkT r gS k) HW4.out fun _ hk => hk.1).trans ((ht5.1.less fun k hk => ⟨by omega,hk.2⟩).trans (Held.of_grown HG6b fun k hk => ⟨by omega,fun e => ?_⟩))
      have : k = g2:=Option.some.inj e
      omega
    · rcases ht5.2 k hk with h | h
      · exact .inl h
      · exact .inr (by omega)
  case inl =>
    have hn0 : n = 0:=by omega
    subst hn0
    have hcp1 : cp = 1:=by omega
    have HG6b:=HG6.out
    rw [if_pos hcp1,show cp - 1 = 0 by omega] at HG6b
    refine bodyPost_ret (jP (P:=Try.prog) (fn:=Try.f53) rfl _ _ g2 91 (pcC q) _ rfl HK6.out Try.underlying91 rfl (by rw [H17.out];exact jC)) rfl ?_
    have hp3:=HM.out.below HW4.out (Nat.le_refl _)
    have hgr : Grew w3 w4 (.slice r.QA r.qn r.qc) (.slice (some ⟨gO,off,none⟩) 0 0):=⟨by rw [HQA.out];exact HG4.out,.inl (by rw [HQA.out];rfl)⟩
    obtain ⟨hp5,ht5⟩:=hp3.opened hgr ((HTl.out w4 cur4 HB4.out HL4.out HT4.out).2 (by omega)) (fun x hx => hp3.confs x (List.mem_cons_of_mem _ hx))
    have hz3:=HW4.out.size;have hz35:=ht5.1.size;have hN2:=HN2.out;have hz13 : w1.heap.size ≤ w3.heap.size:=by omega
    have hq5:=hp3.mine ht5.1 (fun k h1 h2 => ⟨h1,h2⟩) (HQ.out.below HW4.out (Nat.le_refl _))
    have hn2 : ¬ SkT r gS g2:=fun e => by have:=(HM.out.lt e).2;omega
    have hn5 : ¬ SkT { r with QA:=(some ⟨gO,off,none⟩),qn:=0,qc:=0 } gS g2:=fun e => by
      rcases ht5.2 g2 e with h | h
      · exact hn2 h
      · omega
    have hk25:=(HK23b.out.held ht5.1 ⟨by omega,hn2⟩)
    have hp6:=hp5.grown HG6b hn5 (LJ hk25)
    have hq6:=hq5.held (Held.of_grown (S:=fun k => k < (w4.setCell ⟨gS,6,none⟩ (.slice (some ⟨gO,off,none⟩) 0 0)).heap.size ∧ k ≠ g2) HG6b fun _ hk => ⟨hk.1,fun e => hk.2 (Option.some.inj e)⟩) fun k hk ht => ⟨hk,fun e => LJ hk25 (e ▸ ht)⟩
    refine ⟨rfl,_,hp6,⟨?_,fun k hk => ?_⟩,rfl,hq6⟩
    · refine (Held.of_below (S:=fun k => k < w.heap.size ∧ ¬ SkT r gS k) HW4.out fun _ hk => hk.1).trans ((ht5.1.less fun k hk => ⟨by omega,hk.2⟩).trans (Held.of_grown HG6b fun k hk => ⟨by omega,fun e => ?_⟩))
      have : k = g2:=Option.some.inj e
      omega
    · rcases ht5.2 k hk with h | h
      · exact .inl h
      · exact .inr (by omega)
structure RelOk (Rl : World → World → Prop) : Prop where
  refl : ∀ w,Rl w w
  trans : ∀ {w w1 w2 : World},Rl w w1 → Rl w1 w2 → Rl w w2
  drew : ∀ w : World,Rl w w.drew
structure TFact (Rl : World → World → Prop) where
  holds : Value → World → Prop
  stays : ∀ v w w',Rl w w' → holds v w → holds v w'
def TFact.any (Rl : World → World → Prop) : TFact Rl:=⟨fun _ _ => True,fun _ _ _ _ h => h⟩
def TFact.is {Rl : World → World → Prop} (c : Value) : TFact Rl:=⟨fun v _ => v = c,fun _ _ _ _ h => h⟩
def slotAt (o : Oper) (x : Option Nat) (a : Act) : Value:=match o.dst.or x with
  | some d => a.tmps.getD d undef
  | none => undef
def TPost (Rl : World → World → Prop) (D : List Deferred) (W : World) (o : Oper) (x : Option Nat) (R : TFact Rl) : Exit → Act → World → Prop
  | .normal,a,w => a.defers = D ∧ Rl W w ∧ R.holds (slotAt o x a) w
  | _,_,_ => False
def tfactAt {Rl : World → World → Prop} (R : List (TFact Rl)) (i : Nat) : TFact Rl:=R.getD i (.any Rl)
def xAt (also : List (Nat × Nat)) (i : Nat) : Option Nat:=(also.find? fun p => p.1 == i).map (·.2)
theorem xAt_mem {also : List (Nat × Nat)} {i d : Nat} (h : xAt also i = some d) : (i,d) ∈ also:=by
  unfold xAt at h
  cases hf : also.find? (fun p => p.1 == i) with
  | none => rw [hf] at h;cases h
  | some p =>
    rw [hf] at h
    have h1:=List.find?_some hf
    have h2:=List.mem_of_find?_eq_some hf
    have h3 : p.1 = i:=by simpa using h1
    have h4 : p.2 = d:=by simpa using h
    rw [← h3,← h4];exact h2
def xOk (l : List Oper) (also : List (Nat × Nat)) : Bool:=also.all fun p => match l[p.1]? with
  | some o => o.dst.isNone && (o.looksAt l.toArray).contains p.2 && (List.range l.length).all fun i => ((l[i]?).bind (·.dst) != some p.2) || ((masks l).getD p.1 0).testBit i
  | none => false
structure XOk (l : List Oper) (also : List (Nat × Nat)) : Prop where
  dst : ∀ (j d : Nat) (o : Oper),(j,d) ∈ also → l[j]? = some o → o.dst = none
  looks : ∀ (j d : Nat) (o : Oper),(j,d) ∈ also → l[j]? = some o → d ∈ o.looksAt l.toArray
  mask : ∀ (j d i : Nat) (oi : Oper),(j,d) ∈ also → l[i]? = some oi → oi.dst = some d → ((masks l).getD j 0).testBit i = true
theorem XOk.of {l : List Oper} {also : List (Nat × Nat)} (h : xOk l also = true) : XOk l also:=by
  have key : ∀ (j d : Nat),(j,d) ∈ also → ∃ o,l[j]? = some o ∧ o.dst = none ∧ d ∈ o.looksAt l.toArray ∧ ∀ i,i < l.length → ((l[i]?).bind (·.dst) != some d) = true ∨ ((masks l).getD j 0).testBit i = true:=fun j d hm => by
    have h1:=List.all_eq_true.1 h (j,d) hm
    cases ho : l[j]? with
    | none => simp [ho] at h1
    | some o =>
      simp only [ho,Bool.and_eq_true] at h1
      obtain ⟨⟨h2,h3⟩,h4⟩:=h1
      refine ⟨o,rfl,by simpa using h2,by simpa using h3,fun i hi => ?_⟩
      have h5:=List.all_eq_true.1 h4 i (List.mem_range.2 hi)
      rwa [Bool.or_eq_true] at h5
  refine ⟨fun j d o hm ho => ?_,fun j d o hm ho => ?_,fun j d i oi hm hi hd => ?_⟩
  · obtain ⟨o2,h1,h2,_⟩:=key j d hm
    rw [ho] at h1;cases h1;exact h2
  · obtain ⟨o2,h1,_,h2,_⟩:=key j d hm
    rw [ho] at h1;cases h1;exact h2
  · obtain ⟨_,_,_,_,h2⟩:=key j d hm
    rcases h2 i (List.getElem?_eq_some_iff.1 hi).1 with h3 | h3
    · rw [hi] at h3
      simp [hd] at h3
    · exact h3
def tgiven {Rl : World → World → Prop} (R : List (TFact Rl)) (W : World) (T : Act → Prop) : List (Nat × Nat) → Act → Prop
  | [],a => T a
  | p :: ps,a => ∀ v,(tfactAt R p.1).holds v W → tgiven R W T ps (a.put (some p.2) v)
theorem zL {Rl : World → World → Prop} {R : List (TFact Rl)} {W : World} {T : Act → Prop} {a : Act} : ∀ (ps : List (Nat × Nat)) (b : Act),tgiven R W T ps b → (∀ p ∈ ps,(tfactAt R p.1).holds (a.tmps.getD p.2 undef) W) → T (fill a ps b)
  | [],_,h,_ => h
  | p :: ps,_,h,hp => zL ps _ (h _ (hp p (List.mem_cons_self))) fun q hq => hp q (List.mem_cons_of_mem _ hq)
def tends {Rl : World → World → Prop} (R : List (TFact Rl)) (W : World) (T : Act → Prop) : List (Nat × Nat) → Act → Prop
  | [],a => T a
  | p :: ps,a => (tfactAt R p.1).holds (a.tmps.getD p.2 undef) W → tends R W T ps a
theorem X0 {Rl : World → World → Prop} {R : List (TFact Rl)} {W : World} {T : Act → Prop} {a : Act} : ∀ (ps : List (Nat × Nat)),tends R W T ps a → (∀ p ∈ ps,(tfactAt R p.1).holds (a.tmps.getD p.2 undef) W) → T a
  | [],h,_ => h
  | p :: ps,h,hp => X0 ps (h (hp p List.mem_cons_self)) fun q hq => hp q (List.mem_cons_of_mem _ hq)
section
variable {P : Program} {l : List Oper} {Q : Exit → Act → World → Prop} {a0 : Act} {w : World} {Rl : World → World → Prop} {R : List (TFact Rl)} {D : List (List (Nat × Nat))} {every also : List (Nat × Nat)}
structure TInv (Rl : World → World → Prop) (l : List Oper) (also : List (Nat × Nat)) (R : List (TFact Rl)) (a0 : Act) (w : World) (listed : Array Bool) (a : Act) (W : World) : Prop where
  size : listed.size = l.length
  ext : Rl w W
  defs : a.defers = a0.defers
  tsz : a.tmps.size = a0.tmps.size
  got : ∀ j oj d,l.toArray[j]? = some oj → oj.dst.or (xAt also j) = some d → listed.getD j false = true → (tfactAt R j).holds (a.tmps.getD d undef) W
  old : ∀ t,(∀ j oj,l.toArray[j]? = some oj → oj.dst = some t → listed.getD j false = false) → a.tmps[t]? = a0.tmps[t]?
  shut : ∀ j oj,l.toArray[j]? = some oj → listed.getD j false = true → ∀ e ∈ oj.after,Region.binds .any e = true → listed.getD e.on false = true
theorem TInv.step (hR : RelOk Rl) (hX : XOk l also) (hback : ∀ i o,l[i]? = some o → ∀ e ∈ o.after,Region.binds .any e = true → e.on < i) {listed : Array Bool} {a : Act} {W W' : World} {i : Nat} {o : Oper} {v : Value} (h : TInv Rl l also R a0 w listed a W) (hi : l.toArray[i]? = some o) (hok : OpOk l.toArray D every a0.tmps.size i o)
    (hr : i ∈ Region.ready .any l.toArray listed) (hb : Rl W W') (hv : ∀ d,o.dst.or (xAt also i) = some d → (tfactAt R i).holds ((a.put o.dst v).tmps.getD d undef) W') : TInv Rl l also R a0 w (listed.setIfInBounds i true) (a.put o.dst v) W':=by
  obtain ⟨hl,o',ho',hall⟩:=mem_ready.1 hr
  have hoo : o' = o:=by rw [hi] at ho';cases ho';rfl
  subst hoo
  have hilt : i < l.length:=by have:=(Array.getElem?_eq_some_iff.1 hi).1;simpa using this
  have hlf : listed.getD i false = false:=by
    have : i < listed.size:=by rw [h.size];exact hilt
    simp [this] at hl ⊢;exact hl
  have hii : (listed.setIfInBounds i true).getD i false = true:=by
    have : i < listed.size:=by rw [h.size];exact hilt
    simp [this]
  refine ⟨by simp [h.size],hR.trans h.ext hb,(yJ _ _ _).trans h.defs,(zP _ _ _).trans h.tsz,fun j oj d hj hd hlj => ?_,fun t ht => ?_,fun j oj hj hlj e he hbe => ?_⟩
  · by_cases hji : j = i
    · subst hji
      have : oj = o':=by rw [hi] at hj;cases hj;rfl
      subst this
      exact hv d hd
    · have hlj0 : listed.getD j false = true:=by rw [getD_set_ne false (Ne.symm hji)] at hlj;exact hlj
      have h1:=h.got j oj d hj hd hlj0
      have e1 : (a.put o'.dst v).tmps.getD d undef = a.tmps.getD d undef:=by
        cases hod : o'.dst with
        | none => rfl
        | some d' =>
          have hne : d' ≠ d:=fun e => by
            cases hjd : oj.dst with
            | some d2 =>
              rw [hjd] at hd
              have e2 : d2 = d:=by simpa using hd
              exact (hok.dst d' hod).2.2 j oj hj hji (by rw [hjd,e2,e])
            | none =>
              rw [hjd] at hd
              have hx : xAt also j = some d:=by simpa using hd
              have hm:=hX.mask j d i o' (xAt_mem hx) (by simpa using hi) (by rw [hod,e])
              have hjl : l[j]? = some oj:=by simpa using hj
              have hsh : ∀ j oj,l[j]? = some oj → listed.getD j false = true → ∀ e ∈ oj.after,Region.binds .any e = true → listed.getD e.on false = true:=fun j oj hj => h.shut j oj (by simpa using hj)
              have:=qN hback hsh j oj hjl (hsh j oj hjl hlj0) i hm
              rw [hlf] at this;cases this
          have:=xG a d' d v
          rw [if_neg (fun hh => hne hh.1)] at this
          simp [Array.getD_eq_getD_getElem?,this]
      rw [e1]
      exact (tfactAt R j).stays _ _ _ hb h1
  · have h1:=h.old t fun j oj hj hd => by
      have:=ht j oj hj hd
      by_cases hji : j = i
      · subst hji;rw [hii] at this;cases this
      · rwa [getD_set_ne false (Ne.symm hji)] at this
    cases hod : o'.dst with
    | none => exact h1
    | some d' =>
      have hne : d' ≠ t:=fun e => by
        have:=ht i o' hi (by rw [hod,e])
        rw [hii] at this;cases this
      rw [xG,if_neg (fun hh => hne hh.1)]
      exact h1
  · by_cases hji : j = i
    · subst hji
      have : oj = o':=by rw [hi] at hj;cases hj;rfl
      subst this
      exact getD_set_true (hall e he hbe)
    · rw [getD_set_ne false (Ne.symm hji)] at hlj
      exact getD_set_true (h.shut j oj hj hlj e he hbe)
theorem typed_one (hR : RelOk Rl) (hX : XOk l also) (hback : ∀ i o,l[i]? = some o → ∀ e ∈ o.after,Region.binds .any e = true → e.on < i) {listed : Array Bool} {a : Act} {W : World} {K : Act → World → Prop} {i : Nat} {o : Oper} (hi : l.toArray[i]? = some o) (ok : OpOk l.toArray D every a0.tmps.size i o)
    (hob : tgiven R W (fun a1 => wpList P l.toArray (TPost Rl a0.defers W o (xAt also i) (tfactAt R i)) [o] a1 W) (D.getD i []) a0)
    (h : TInv Rl l also R a0 w listed a W) (hr : i ∈ Region.ready .any l.toArray listed) (hK : ∀ a' W',TInv Rl l also R a0 w (listed.setIfInBounds i true) a' W' → K a' W') : wpOp P l.toArray Q i K a W:=by
  obtain ⟨hl,o',hi',hall'⟩:=mem_ready.1 hr
  have hall : ∀ e ∈ o.after,Region.binds .any e = true → listed.getD e.on false = true:=by
    rw [hi] at hi';cases hi';exact hall'
  have hlf : listed.getD i false = false:=by
    have : i < listed.size:=by rw [h.size];exact (by have:=(Array.getElem?_eq_some_iff.1 hi).1;simpa using this)
    simp [this] at hl ⊢;exact hl
  have hg:=zL (a:=a) (D.getD i []) a0 hob fun p hp => by
    obtain ⟨⟨oj,hj,hd⟩,e,he,hb,hon⟩:=ok.deps p hp
    exact h.got p.1 oj p.2 hj (by rw [hd];rfl) (by rw [← hon];exact hall e he hb)
  generalize ha1 : fill a (D.getD i []) a0 = a1 at hg
  have agree : ∀ t ∈ o.looksAt l.toArray,a.tmps[t]? = a1.tmps[t]?:=by
    intro t ht
    rw [← ha1,xU]
    by_cases hc : t ∈ (D.getD i []).map (·.2) ∧ t < a0.tmps.size
    · rw [if_pos hc,yK a t (by rw [h.tsz];exact hc.2)]
    · rw [if_neg hc]
      by_cases htl : t < a0.tmps.size
      · refine h.old t fun j oj hj hd => ?_
        rcases ok.looks t ht j oj hj hd with hin | ⟨e,he,hb,hon⟩
        · exact absurd ⟨List.mem_map.2 ⟨(j,t),hin,rfl⟩,htl⟩ hc
        · cases hlj : listed.getD j false
          · rfl
          · have:=h.shut j oj hj hlj e he hb
            rw [hon,hlf] at this;cases this
      · have n1 : a.tmps[t]? = none:=Array.getElem?_eq_none (by rw [h.tsz];exact Nat.le_of_not_lt htl)
        have n2 : a0.tmps[t]? = none:=Array.getElem?_eq_none (Nat.le_of_not_lt htl)
        rw [n1,n2]
  have hex : execOp a1.eval o = execOp a.eval o:=execOp_congr o ok.sel fun x hx => by
    cases x with
    | tmp t =>
      have:=agree t (List.mem_append_left _ (List.mem_filterMap.2 ⟨.tmp t,by simpa using hx,rfl⟩))
      simp [Act.eval,Array.getD_eq_getD_getElem?,this]
    | _ => rfl
  have hwt : Region.wanted o (yielded l.toArray a1.tmps) = Region.wanted o (yielded l.toArray a.tmps):=by
    unfold Region.wanted
    cases hgd : o.guard with
    | none => rfl
    | some gw =>
      obtain ⟨g,want⟩:=gw
      have hy : yielded l.toArray a1.tmps g = yielded l.toArray a.tmps g:=by
        unfold yielded
        cases ht : (l.toArray[g]?).bind (·.dst) with
        | none => rfl
        | some t =>
          have ht2 : (l[g]?.bind fun x => x.dst) = some t:=by simpa using ht
          have:=agree t (by simp [Oper.looksAt,hgd,ht2])
          simp [this]
      simp only [hy]
  have done : ∀ v W',TPost Rl a0.defers W o (xAt also i) (tfactAt R i) .normal (a1.put o.dst v) W' → K (a.put o.dst v) W':=by
    rintro v W' ⟨_,hb,hv⟩
    refine hK _ _ (h.step hR hX hback hi ok hr hb fun d hd => ?_)
    unfold slotAt at hv
    rw [hd] at hv
    have e1 : (a.put o.dst v).tmps.getD d undef = (a1.put o.dst v).tmps.getD d undef:=by
      cases hod : o.dst with
      | some d0 =>
        rw [hod] at hd
        have e2 : d0 = d:=by simpa using hd
        subst e2
        have hlt:=(ok.dst d0 hod).1
        have p1:=xG a d0 d0 v
        rw [if_pos ⟨rfl,by rw [h.tsz];exact hlt⟩] at p1
        have p2:=xG a1 d0 d0 v
        rw [if_pos ⟨rfl,by rw [← ha1,vN];exact hlt⟩] at p2
        simp [Array.getD_eq_getD_getElem?,p1,p2]
      | none =>
        rw [hod] at hd
        have hx : xAt also i = some d:=by simpa using hd
        have:=agree d (hX.looks i d o (xAt_mem hx) (by simpa using hi))
        show a.tmps.getD d undef = a1.tmps.getD d undef
        simp [Array.getD_eq_getD_getElem?,this]
    rw [e1]
    exact hv
  unfold wpOp
  simp only [hi]
  rw [← hwt]
  unfold wpList at hg
  by_cases hw : Region.wanted o (yielded l.toArray a1.tmps) = true
  · rw [if_pos hw] at hg ⊢
    rcases hg with hg | ⟨_,_,_,hf⟩
    case inr => exact hf.elim
    refine .inl ?_
    unfold Oper.wp at hg ⊢
    rw [hex] at hg
    generalize (execOp a.eval o).run P W = r at *
    cases r with
    | ok n w' =>
      cases n <;> simp only [Oper.upon] at hg ⊢
      case value v => exact done v w' hg
      case skip => exact done undef w' hg
      case defer d =>
        obtain ⟨hd,_⟩:=hg
        rw [yJ] at hd
        have e1 : a1.defers = a0.defers:=by rw [← ha1];exact xI _ _ _
        simp only [e1] at hd
        exact absurd hd (by simp)
      case enter f args =>
        refine Calls.mono hg fun e w'' he => ?_
        cases e with
        | returned v => exact done v w'' he
        | panicked c => exact he.elim
        | outgrown => obtain ⟨_,_,hf⟩:=he;exact hf.elim
      case row row args => exact Rows.mono hg fun v w'' he => done v w'' he
    | halt x w' =>
      cases x <;> simp only [Oper.upon] at hg ⊢
      case panic v => exact hg.elim
  · rw [if_neg hw] at hg ⊢
    exact done undef W hg
theorem typed_any (hR : RelOk Rl) (hX : XOk l also) (hback : ∀ i o,l[i]? = some o → ∀ e ∈ o.after,Region.binds .any e = true → e.on < i) (hok : ∀ i o,l.toArray[i]? = some o → OpOk l.toArray D every a0.tmps.size i o) (hev : ∀ p ∈ every,∃ oj,l.toArray[p.1]? = some oj ∧ oj.dst = some p.2) (hal : ∀ p ∈ also,∃ oj,l.toArray[p.1]? = some oj ∧ oj.dst.or (xAt also p.1) = some p.2)
    (hob : ∀ i o,l.toArray[i]? = some o → ∀ W,Rl w W → tgiven R W (fun a1 => wpList P l.toArray (TPost Rl a0.defers W o (xAt also i) (tfactAt R i)) [o] a1 W) (D.getD i []) a0)
    (hend : ∀ W,Rl w W → tgiven R W (tends R W (fun a => Q .normal a W) also) every a0) :
    ∀ (fuel : Nat) (listed : Array Bool) (a : Act) (W : World),TInv Rl l also R a0 w listed a W → listed.toList.count false ≤ fuel → wpAny P .any l.toArray Q fuel listed a W:=by
  have fin : ∀ (listed : Array Bool) (a : Act) (W : World),TInv Rl l also R a0 w listed a W → (∀ j,j < l.toArray.size → listed.getD j false = true) → Q .normal a W:=by
    intro listed a W h hall
    have h1:=zL (a:=a) every a0 (hend W h.ext) fun p hp => by
      obtain ⟨oj,hj,hd⟩:=hev p hp
      exact h.got p.1 oj p.2 hj (by rw [hd];rfl) (hall p.1 (Array.getElem?_eq_some_iff.1 hj).1)
    have e1 : fill a every a0 = a:=by
      have e2 : (fill a every a0).tmps = a.tmps:=by
        apply Array.ext_getElem?
        intro t
        rw [xU]
        by_cases hc : t ∈ every.map (·.2) ∧ t < a0.tmps.size
        · rw [if_pos hc,yK a t (by rw [h.tsz];exact hc.2)]
        · rw [if_neg hc]
          by_cases ht : t < a0.tmps.size
          · refine (h.old t fun j oj hj hd => ?_).symm
            exfalso
            exact hc ⟨List.mem_map.2 ⟨(j,t),((hok j oj hj).dst t hd).2.1,rfl⟩,ht⟩
          · rw [Array.getElem?_eq_none (by omega),Array.getElem?_eq_none (by rw [h.tsz];omega)]
      have e3:=(xI a every a0).trans h.defs.symm
      cases hf : fill a every a0
      cases a
      rw [hf] at e2 e3
      simp only at e2 e3
      rw [e2,e3]
    rw [e1] at h1
    refine X0 also h1 fun p hp => ?_
    obtain ⟨oj,hj,hd⟩:=hal p hp
    exact h.got p.1 oj p.2 hj hd (hall p.1 (Array.getElem?_eq_some_iff.1 hj).1)
  have one : ∀ (fuel : Nat) (listed : Array Bool) (a : Act) (W : World) (K : Act → World → Prop) (i : Nat),TInv Rl l also R a0 w listed a W → i ∈ Region.ready .any l.toArray listed →
      (∀ a' W',TInv Rl l also R a0 w (listed.setIfInBounds i true) a' W' → K a' W') → wpOp P l.toArray Q i K a W:=by
    intro fuel listed a W K i h hr hK
    obtain ⟨_,o,hi,_⟩:=mem_ready.1 hr
    exact typed_one hR hX hback hi (hok i o hi) (hob i o hi W h.ext) h hr hK
  intro fuel
  induction fuel with
  | zero =>
    intro listed a W h hc
    have hall : ∀ j,j < l.toArray.size → listed.getD j false = true:=by
      intro j hj
      have hn : false ∉ listed.toList:=List.count_eq_zero.1 (by omega)
      have hjl : j < listed.size:=by rw [h.size];simpa using hj
      cases hb : listed[j]
      · exact absurd (by rw [← hb];exact Array.getElem_mem_toList hjl) hn
      · simp [hjl,hb]
    refine ⟨?_,fin _ _ _ h hall⟩
    cases hr : Region.ready .any l.toArray listed with
    | nil => rfl
    | cons x xs =>
      have hx : x ∈ Region.ready .any l.toArray listed:=by rw [hr];exact List.mem_cons_self
      obtain ⟨hl,o,hi,_⟩:=mem_ready.1 hx
      have hlt : x < l.toArray.size:=(Array.getElem?_eq_some_iff.1 hi).1
      have:=hall x hlt
      have hxl : x < listed.size:=by rw [h.size];simpa using hlt
      simp [hxl] at hl this
      rw [hl] at this;cases this
  | succ fuel ih =>
    intro listed a W h hc
    refine ⟨fun hr => fin _ _ _ h (yE hok (by simpa using h.size) hr),fun i hi => one fuel listed a W _ i h hi fun a' W' h' => ih _ _ _ h' ?_⟩
    obtain ⟨hl,o,ho,_⟩:=mem_ready.1 hi
    have hil : i < listed.size:=by rw [h.size];have:=(Array.getElem?_eq_some_iff.1 ho).1;simpa using this
    have:=xL listed.toList i (by
      simp [hil] at hl ⊢;exact hl)
    rw [Array.toList_setIfInBounds]
    omega
def tobs (P : Program) (ops : Array Oper) (Rl : World → World → Prop) (also : List (Nat × Nat)) (R : List (TFact Rl)) (D : List (List (Nat × Nat))) (w : World) (a0 : Act) : Nat → List Oper → Prop
  | _,[] => True
  | i,o :: r => (∀ W,Rl w W → tgiven R W (fun a1 => wpList P ops (TPost Rl a0.defers W o (xAt also i) (tfactAt R i)) [o] a1 W) (D.getD i []) a0) ∧ tobs P ops Rl also R D w a0 (i + 1) r
theorem tobs_at {ops : Array Oper} : ∀ (l : List Oper) (k : Nat),tobs P ops Rl also R D w a0 k l → ∀ j o,l[j]? = some o →
    ∀ W,Rl w W → tgiven R W (fun a1 => wpList P ops (TPost Rl a0.defers W o (xAt also (k + j)) (tfactAt R (k + j))) [o] a1 W) (D.getD (k + j) []) a0
  | [],_,_,j,o,h => by simp at h
  | x :: l,k,ho,0,o,h => by
    simp at h;subst h
    exact ho.1
  | x :: l,k,ho,j + 1,o,h => by
    have:=tobs_at l (k + 1) ho.2 j o (by simpa using h)
    rw [show k + (j + 1) = k + 1 + j by omega]
    exact this
theorem XV {id : Nat} (Rl : World → World → Prop) (also : List (Nat × Nat)) (R : List (TFact Rl)) (D : List (List (Nat × Nat))) (every : List (Nat × Nat)) (hm : P.follows .mixedOrders = true) (hok : partsOk l.toArray D every a0.tmps.size = true)
    (hx : xOk l also = true) (hxa : also.all (fun p => ((l[p.1]?).map fun o => o.dst.or (xAt also p.1)) == some (some p.2)) = true) (hR : RelOk Rl) (hob : tobs P l.toArray Rl also R D w a0 0 l) (hend : ∀ W,Rl w W → tgiven R W (tends R W (fun a => Q .normal a W) also) every a0) : (Code.region id l.toArray true).wp P Q a0 w:=by
  unfold partsOk at hok
  simp only [Bool.and_eq_true] at hok
  have ok : ∀ i o,l.toArray[i]? = some o → OpOk l.toArray D every a0.tmps.size i o:=fun i o hi => OpOk.of (by
    have:=List.all_eq_true.1 hok.1 i (List.mem_range.2 (Array.getElem?_eq_some_iff.1 hi).1)
    rw [hi] at this
    exact this)
  have hev : ∀ p ∈ every,∃ oj,l.toArray[p.1]? = some oj ∧ oj.dst = some p.2:=fun p hp => by
    have:=List.all_eq_true.1 hok.2 p hp
    obtain ⟨oj,h6,h7⟩:=Option.bind_eq_some_iff.1 (beq_iff_eq.1 this)
    exact ⟨oj,h6,h7⟩
  have hal : ∀ p ∈ also,∃ oj,l.toArray[p.1]? = some oj ∧ oj.dst.or (xAt also p.1) = some p.2:=fun p hp => by
    have:=List.all_eq_true.1 hxa p hp
    have:=beq_iff_eq.1 this
    obtain ⟨oj,h6,h7⟩:=Option.map_eq_some_iff.1 this
    exact ⟨oj,by simpa using h6,h7⟩
  have hback : ∀ i o,l[i]? = some o → ∀ e ∈ o.after,Region.binds .any e = true → e.on < i:=fun i o hi => (ok i o (by simpa using hi)).back
  refine wp_region_any hm (typed_any hR (XOk.of hx) hback ok hev hal (fun i o hi W h => ?_) hend l.toArray.size _ a0 _ ⟨by simp,hR.drew w,rfl,rfl,fun j oj d hj _ hl => ?_,fun _ _ => rfl,fun j oj hj hl => ?_⟩ (by simp))
  · have h1:=tobs_at l 0 hob i o (by simpa using hi)
    rw [Nat.zero_add] at h1
    exact h1 W h
  all_goals
    exfalso
    have hlt : j < l.toArray.size:=(Array.getElem?_eq_some_iff.1 hj).1
    have hlt2 : j < l.length:=by simpa using hlt
    simp [hlt2] at hl
end
theorem qG {Rl : World → World → Prop} (hR : RelOk Rl) {D : List Deferred} {W : World} {o : Oper} {x : Option Nat} {d : Nat} {c : Value} {a : Act} (ho : o.dst = some d) (hs : a.tmps.toList[d]? = some c) (hd : a.defers = D) : TPost Rl D W o x (TFact.is c) .normal a W:=by
  refine ⟨hd,hR.refl _,?_⟩
  have h : a.tmps[d]? = some c:=by simpa using hs
  show slotAt o x a = c
  simp [slotAt,ho,Array.getD_eq_getD_getElem?,h]
theorem LR {Rl : World → World → Prop} {D : List Deferred} {W W' : World} {o : Oper} {x : Option Nat} {d : Nat} {c : Value} {R : TFact Rl} {a : Act} (ho : o.dst = some d) (hs : a.tmps.toList[d]? = some c) (hd : a.defers = D) (hb : Rl W W') (hr : R.holds c W') : TPost Rl D W o x R .normal a W':=by
  refine ⟨hd,hb,?_⟩
  have h : a.tmps[d]? = some c:=by simpa using hs
  simp only [slotAt,ho,Option.or,Array.getD_eq_getD_getElem?,h,Option.getD_some]
  exact hr
theorem XO {Rl : World → World → Prop} {D : List Deferred} {W W' : World} {o : Oper} {d : Nat} {c : Value} {R : TFact Rl} {a : Act} (ho : o.dst = none) (hs : a.tmps.toList[d]? = some c) (hd : a.defers = D) (hb : Rl W W') (hr : R.holds c W') : TPost Rl D W o (some d) R .normal a W':=by
  refine ⟨hd,hb,?_⟩
  have h : a.tmps[d]? = some c:=by simpa using hs
  simp only [slotAt,ho,Option.or,Array.getD_eq_getD_getElem?,h,Option.getD_some]
  exact hr
structure Keeps (K : Nat) (T : TypeId) (w w' : World) : Prop where
  os : w'.os = w.os
  tape : w'.tape = w.tape
  output : w'.output = w.output
  size : w.heap.size ≤ w'.heap.size
  block : ∀ k,k < w.heap.size → (k < K ∨ ∀ cs,¬ Blk w k T cs) → w'.heap[k]? = w.heap[k]?
structure Fill (K : Nat) (T : TypeId) (Good : List Value → World → Prop) (w w' : World) : Prop where
  keeps : Keeps K T w w'
  turn : ∀ k cs,K ≤ k → Blk w k T cs → ∃ cs',Blk w' k T cs' ∧ (cs' = cs ∨ Good cs' w')
structure GoodOk (K : Nat) (T : TypeId) (n : Nat) (Good : List Value → World → Prop) : Prop where
  stays : ∀ cs w w',Keeps K T w w' → Good cs w → Good cs w'
  len : ∀ cs w,Good cs w → cs.length = n
section
variable {K : Nat} {T : TypeId} {Good : List Value → World → Prop} {n : Nat}
theorem Fill.of_below {w w' : World} (h : Below w.heap.size w w') : Fill K T Good w w' :=
  ⟨⟨h.os,h.tape,h.output,h.size,fun k hk _ => h.block k hk⟩,fun _ cs _ hb => ⟨cs,hb.below h hb.lt,.inl rfl⟩⟩
theorem Fill.below {w w' : World} (h : Fill w.heap.size T Good w w') : Below w.heap.size w w' :=
  ⟨h.keeps.os,h.keeps.tape,h.keeps.output,h.keeps.size,fun k hk => h.keeps.block k hk (.inl hk)⟩
theorem Fill.ok (hG : GoodOk K T n Good) : RelOk (Fill K T Good) where
  refl w:=Fill.of_below (Below.refl _ _)
  drew w:=Fill.of_below ⟨rfl,rfl,rfl,Nat.le_refl _,fun _ _ => rfl⟩
  trans {w w1 w2} h k:=by
    have hno : ∀ i,i < w.heap.size → (i < K ∨ ∀ cs,¬ Blk w i T cs) → (i < K ∨ ∀ cs,¬ Blk w1 i T cs):=fun i hi hc => by
      rcases hc with hc | hc
      · exact .inl hc
      · refine .inr fun cs hb => hc cs ?_
        unfold Blk at hb ⊢
        rw [← h.keeps.block i hi (.inr hc)];exact hb
    refine ⟨⟨k.keeps.os.trans h.keeps.os,k.keeps.tape.trans h.keeps.tape,k.keeps.output.trans h.keeps.output,Nat.le_trans h.keeps.size k.keeps.size,fun i hi hc => ?_⟩,fun i cs hK hb => ?_⟩
    · exact (k.keeps.block i (Nat.lt_of_lt_of_le hi h.keeps.size) (hno i hi hc)).trans (h.keeps.block i hi hc)
    · obtain ⟨c1,hb1,h1⟩:=h.turn i cs hK hb
      obtain ⟨c2,hb2,h2⟩:=k.turn i c1 hK hb1
      refine ⟨c2,hb2,?_⟩
      rcases h2 with h2 | h2
      · subst h2
        rcases h1 with h1 | h1
        · exact .inl h1
        · exact .inr (hG.stays _ _ _ k.keeps h1)
      · exact .inr h2
theorem Fill.of_store {w w' : World} {g : Nat} {cs new : List Value} (hg : w.grownBy w' (some g)) (hK : K ≤ g) (hb : Blk w g T cs) (hb' : Blk w' g T new) (hnew : Good new w') : Fill K T Good w w' :=
  ⟨⟨hg.os,hg.tape,hg.output,hg.size,fun k hk hc => hg.block k hk (by
    intro e
    cases e
    rcases hc with hc | hc
    · omega
    · exact hc cs hb)⟩,fun k c _ hbk => by
    by_cases e : k = g
    · subst e;exact ⟨new,hb',.inr hnew⟩
    · exact ⟨c,by unfold Blk;rw [hg.block k hbk.lt (by intro e2;cases e2;exact e rfl)];exact hbk,.inl rfl⟩⟩
def TFact.var (hG : GoodOk K T n Good) : TFact (Fill K T Good) :=
  ⟨fun v W => ∃ g cs,v = .pointer (some ⟨g,0,none⟩) ∧ K ≤ g ∧ Blk W g T cs ∧ cs.length = n,fun _ _ _ hf ⟨g,cs,h1,h2,h3,h4⟩ => by
    obtain ⟨c1,hb1,h5⟩:=hf.turn g cs h2 h3
    refine ⟨g,c1,h1,h2,hb1,?_⟩
    rcases h5 with rfl | h5
    · exact h4
    · exact hG.len _ _ h5⟩
def TFact.good (hG : GoodOk K T n Good) : TFact (Fill K T Good) :=
  ⟨fun v W => ∃ g cs,v = .pointer (some ⟨g,0,none⟩) ∧ K ≤ g ∧ Blk W g T cs ∧ Good cs W,fun _ _ _ hf ⟨g,cs,h1,h2,h3,h4⟩ => by
    obtain ⟨c1,hb1,h5⟩:=hf.turn g cs h2 h3
    refine ⟨g,c1,h1,h2,hb1,?_⟩
    rcases h5 with rfl | h5
    · exact hG.stays _ _ _ hf.keeps h4
    · exact h5⟩
theorem OwnR.keeps {α : Type} {sz : Nat} {f : α → Nat → Value} {w w' : World} {B : Nat} {e : TypeId} {v : Value} {l : List α} (h : OwnR sz f w B e v l) (hk : Keeps K T w w') (hne : e ≠ T) : OwnR sz f w' B e v l:=by
  refine ⟨h.1,?_⟩
  rcases h.2 with h2 | ⟨g,cap,cur,h1,h2,h3,h4⟩
  · exact .inl h2
  · refine .inr ⟨g,cap,cur,h1,h2,?_,h4⟩
    have hlt : g < w.heap.size:=by
      rcases Nat.lt_or_ge g w.heap.size with hh | hh
      · exact hh
      · rw [Array.getElem?_eq_none hh] at h3;cases h3
    rw [hk.block g hlt (.inr fun cs hb => by
      unfold Blk at hb
      rw [h3] at hb
      injection hb with hb
      injection hb with _ h5
      exact hne h5)]
    exact h3
end
theorem Mine.keeps {K : Nat} {T : TypeId} {w w' : World} {B : Nat} {q : Pc} (h : Mine w B q) (hk : Keeps K T w w') (h1 : 155 ≠ T) (h2 : 175 ≠ T) : Mine w' B q :=
  ⟨h.row.keeps hk h1,fun k x hx => (h.fam.own k x hx).keeps hk h2,h.fam.out,h.fam.apart⟩
def nodeGood (y : Nd) : List Value → World → Prop:=fun cs _ => cs = ndC y
theorem lN (K : Nat) (y : Nd) : GoodOk K 97 4 (nodeGood y):=⟨fun _ _ _ _ h => h,fun cs _ h => by have h2 : cs = ndC y:=h;subst h2;rfl⟩
def confGood (K : Nat) (c1 c2 : M.Cf) : List Value → World → Prop:=fun cs w => ∃ q : Pc,cs = pcC q ∧ cs.length = 17 ∧ Mine w K q ∧ (q.cf = c1 ∨ q.cf = c2)
def TFact.stepped (K : Nat) (c1 c2 c : M.Cf) : TFact (Fill K 91 (confGood K c1 c2)) :=
  ⟨fun v W => ∃ q',v = pcA q' ∧ Mine W K q' ∧ q'.cf = c,fun _ _ _ hf ⟨q',h1,h2,h3⟩ => ⟨q',h1,h2.keeps hf.keeps (by decide) (by decide),h3⟩⟩
end Go.Proofs.Ytcbfghcdbmlneaa
