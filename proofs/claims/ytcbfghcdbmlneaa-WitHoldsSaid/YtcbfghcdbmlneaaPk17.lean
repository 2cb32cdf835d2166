/- RaceP3, Iter, SemP6, SemP7, SemP8. -/
import Derived.Test.YtcbfghcdbmlneaaPk16
import Derived.RangeFuncLeaves
import Derived.RangeFuncCalls
import Derived.RangeFuncRecord
import Derived.OwnWalkIn
import Derived.TacticsInMore
import Derived.LoopIn
import Derived.Shelf.Abstract
import Derived.Test.YtcbfghcdbmlneaaPk1
import Derived.Test.YtcbfghcdbmlneaaPk14
import Derived.Test.YtcbfghcdbmlneaaPk9
import Derived.Test.YtcbfghcdbmlneaaPk3
namespace Go.Proofs.Ytcbfghcdbmlneaa
open Go.RowKit
theorem uO {w w' : World} {v : Value} {l : List Tc} {e : TypeId} (h : OwnR 3 tcV w' w.heap.size e v l) {n : Nat} (hn : l.length = n) : ∃ A c,v = .slice A n c ∧ n ≤ c ∧ c ≤ maxLen ∧ Recs 3 tcV w' w'.heap.size A n l:=by
  subst hn
  exact h.form
set_option maxRecDepth 100000 in
set_option maxHeartbeats 3200000 in
theorem race_pair (B : Nat) (p : Pg) (hf : Fine p) (q : Pc) (w : World) (hp : p.Ok w B) (hq : q.Ok w B) (hg : M.Good p q.cf) (hB : B ≤ w.heap.size) (a b g : Int) (r : Bool) (hr : M.pair p q.cf a b g = r) :
    Calls Try.prog 42 #[pgA p,pcA q,.int .i64 a,.int .i64 b,.int .i64 g] w fun e w' => e = .returned (.bool r) ∧ Below w.heap.size w w':=by
  have h8 : q.len ≤ 8:=by rw [← hq.len];exact hg.most
  have HQ17:=kp (jW hg.owns)
  have HP:=kp hp;have HQ:=kp hq;have HG:=kp hg;have HF:=kp hf;have HR:=kp hr
  have HLen:=kp hq.len
  clear hp hq hg hf hr
  rw [qS,jL]
  go_enter Try.func42,Try.ntmps42
  go_wp2_with (first
    | ((with_reducible refine j6 rfl 46 (.tmp 0) rfl (pgC p) rfl ?_);intro g1 w1 hg1 hk1 hw1;have HK1:=kp hk1;have HW1:=kp hw1;have hs1:=hw1.size;have hl1:=hk1.lt;clear hk1 hw1)
    | ((with_reducible refine j6 rfl 91 (.tmp 1) rfl (pcC q) rfl ?_);intro g2 w2 hg2 hk2 hw2;have HK2:=kp hk2;have HK12:=kp (HK1.out.below hw2 hl1);have HW2:=kp (HW1.out.trans (hw2.mono hs1));have hs2:=HW2.out.size;have hl12:=HK12.out.lt;have hl2:=hk2.lt;clear hk2 hw2)
    | ((with_reducible show Sl 14);go_must (refine j4 rfl 46 (.tmp 5) rfl g1 rfl _ (pgC p) _ HK12.out Try.underlying46 rfl jF ?_))
    | ((with_reducible show Sl 15);go_must (refine j4 rfl 91 (.tmp 6) rfl g2 rfl _ (pcC q) _ HK2.out Try.underlying91 rfl (by rw [HQ17.out];exact jC) ?_))
    | (go_at_call 65;fail))
  refine (uX B p HF.out q w2 (HP.out.below (HW2.out.mono hB)) (HQ.out.below (HW2.out.mono hB)) HG.out (by omega)).mono ?_
  rintro e w3 ⟨v,rfl,hown,hb3⟩
  obtain ⟨n,hn⟩ : ∃ n,(touchesTo p q.cf q.len).length = n:=⟨_,rfl⟩
  obtain ⟨A,c,rfl,hnc,hcm,hrec⟩:=uO hown hn
  obtain ⟨l,hl⟩ : ∃ l,touchesTo p q.cf q.len = l:=⟨_,rfl⟩
  have hn8 : n ≤ 8:=by have:=yG p q.cf q.len;omega
  rw [hl] at hrec
  have HRec:=kp hrec;have HL:=kp hl
  have HW3:=kp (HW2.out.trans (hb3.mono hs2))
  have hs3:=HW3.out.size
  unfold maxLen at hcm
  clear hown hb3 hn hrec hl
  go_wp2_with fail
  refine (X6 w3.heap.size A n c l a w3 HRec.out (by omega)).mono ?_
  rintro e w4 ⟨va,rfl,hva,rfl⟩
  have HVa:=kp hva
  clear hva
  go_wp2_with fail
  refine (X6 w3.heap.size A n c l b w3 HRec.out (by omega)).mono ?_
  rintro e w4 ⟨vb,rfl,hvb,rfl⟩
  have HVb:=kp hvb
  clear hvb
  rcases HVa.out with ⟨ad,i,x,hA,hx,hxa,rfl⟩ | ⟨rfl,hno⟩
  · rcases HVb.out with ⟨ad',j,y,hA',hy,hyb,rfl⟩ | ⟨rfl,hno⟩
    · obtain rfl : ad = ad':=by rw [hA] at hA';exact Option.some.inj hA'
      clear HVa HVb hA'
      obtain ⟨ad1,x',e1,hab,hx',hxat⟩:=X1 HRec.out (show i < n by rw [← HRec.out.len];exact (List.getElem?_eq_some_iff.1 hx).1)
      obtain rfl : ad = ad1:=by rw [hA] at e1;exact Option.some.inj e1
      obtain rfl : x = x':=by rw [hx] at hx';exact Option.some.inj hx'
      obtain ⟨ad2,y',e2,_,hy',hyat⟩:=X1 HRec.out (show j < n by rw [← HRec.out.len];exact (List.getElem?_eq_some_iff.1 hy).1)
      obtain rfl : ad = ad2:=by rw [hA] at e2;exact Option.some.inj e2
      obtain rfl : y = y':=by rw [hy] at hy';exact Option.some.inj hy'
      rw [← HL.out] at hx hy
      obtain ⟨_,hxp,hxe⟩:=uP hx
      obtain ⟨_,hyp,hye⟩:=uP hy
      have hrr:=vZ hxp hyp g
      rw [← hxe,← hye,hxa,hyb,HR.out] at hrr
      have hgl : (M.acc p q.cf (x.who : Int)).1 = x.glob:=by rw [hxe];rfl
      rw [hxa] at hgl
      rw [hgl] at hrr
      have HRR:=kp hrr;have HXat:=kp hxat;have HYat:=kp hyat
      have hx1:=hxat.glob
      clear hrr hxat hyat hgl hxe hye hxp hyp hx hy hx' hy' e1 e2 hA hxa hyb
      by_cases hgg : x.glob = g
      · have hgb : (x.glob == g) = true:=by rw [beq_iff_eq];exact hgg
        have HE : Kept (races x y = r):=kp (by rw [HRR.out,decide_eq_true hgg,Bool.true_and])
        clear hgg
        go_wp2_with (first
          | (go_at_call 67;go_must (refine (uA (ad.add (i * 3)) (ad.add (j * 3)) x y _ HXat.out HYat.out r HE.out).mono ?_);rintro e w5 ⟨rfl,hb5⟩;have HB5:=kp (HW3.out.trans (hb5.mono hs3));clear hb5))
        go_ret
        exact ⟨rfl,HB5.out⟩
      · have hgb : (x.glob == g) = false:=by rw [beq_eq_false_iff_ne];exact hgg
        have HE : Kept (false = r):=kp (by rw [HRR.out,decide_eq_false hgg,Bool.false_and])
        clear hgg
        go_wp2
        go_ret
        exact ⟨jQ HE.out,HW3.out⟩
    · have HE : Kept (false = r):=kp (by rw [← HR.out];exact (QD (.inr (acc_none HLen.out (by rw [HL.out];exact hno)))).symm)
      clear hno HVa HVb hA hx hxa
      go_wp2
      go_ret
      exact ⟨jQ HE.out,HW3.out⟩
  · have HE : Kept (false = r):=kp (by rw [← HR.out];exact (QD (.inl (acc_none HLen.out (by rw [HL.out];exact hno)))).symm)
    clear hno HVa
    rcases HVb.out with ⟨ad',j,y,hA',hy,hyb,rfl⟩ | ⟨rfl,hno⟩
    · clear HVb hA' hy hyb
      go_wp2
      go_ret
      exact ⟨jQ HE.out,HW3.out⟩
    · clear HVb hno
      go_wp2
      go_ret
      exact ⟨jQ HE.out,HW3.out⟩
abbrev wf (r : Option Nat) : Fence:={ Fence.wide with round:=r }
def noDefer (o : Oper) : Bool:=match o.op with | .defer _ => false | _ => true
theorem noDefer_op {o : Oper} (h : noDefer o = true) : ∀ c,o.op ≠ .defer c:=by
  intro c e
  unfold noDefer at h
  rw [e] at h
  cases h
section
variable {P : Program} {r : Option Nat} {n : Nat} {ops : Array Oper} {Q Q' : Exit → Act → World → Prop} {a : Act} {w : World} {o : Oper} {rest : List Oper}
theorem QS {f : FuncId} {args : Array Value} {R : Ending → World → Prop} (h : Calls P f args w R) : CallsIn (wf r) n P f args w R:=(callsIn_wide (n:=n)).2 h
theorem rowsIn_wf {row : String} {args : Array Value} {R : Value → World → Prop} (h : Rows P row args w R) : RowsIn (wf r) n P row args w R :=
  fun c cs _ => let ⟨v,w',q,s⟩:=h c cs;⟨v,w',q,stepsIn_wide.2 s⟩
theorem uZ {p : Prop} (h : (wf r).depth.isSome = true) : p:=by simp [Fence.wide] at h
theorem QH {next next' : Act → World → Prop} (hd : noDefer o = true) (hn : ∀ a w,next a w → next' a w) (hp : ∀ ch a w,Q (.panic ch) a w → Q' (.panic ch) a w) (hQ : ¬ LetsOut Q) (h : o.wp P a w next Q) : o.wpIn (wf r) n P a w next' Q':=by
  refine ⟨fun _ _ => trivial,?_⟩
  rw [Oper.semAt_eq _ _ _ (noDefer_op hd)]
  unfold Oper.wp at h
  generalize (execOp a.eval o).run P w = res at h ⊢
  cases res with
  | ok v w' =>
    cases v with
    | value v => exact hn _ _ h
    | skip => exact hn _ _ h
    | defer d => exact hn _ _ h
    | enter f args =>
      rw [Oper.upon_enter] at h
      rw [Oper.uponIn_enter]
      refine ⟨uZ,QS (Calls.mono h fun e w'' he => ?_)⟩
      cases e with
      | returned v => exact hn _ _ he
      | panicked ch => exact hp _ _ _ he
      | outgrown => exact absurd he hQ
    | row row args =>
      rw [Oper.upon_row] at h
      rw [Oper.uponIn_row]
      exact ⟨uZ,rowsIn_wf (Rows.mono h fun v w'' he => hn _ _ he)⟩
    | _ => exact h.elim
  | halt s w' =>
    cases s <;> first | exact hp _ _ _ h | exact h.elim
theorem y8 (hQ : ¬ LetsOut Q) : ∀ (l : List Oper) (a : Act) (w : World),(∀ o ∈ l,noDefer o = true) → wpList P ops Q l a w → wpListIn (wf r) n P ops Q l a w
  | [],_,_,_,h => h
  | o :: l,a,w,hd,h => by
    unfold wpList at h
    unfold wpListIn
    by_cases hw : Region.wanted o (yielded ops a.tmps) = true
    · rw [if_pos hw] at h ⊢
      rcases h with h | h
      · exact QH (hd o (by simp)) (fun a w h => y8 hQ l a w (fun o ho => hd o (by simp [ho])) h) (fun _ _ _ h => h) hQ h
      · exact absurd h.2 hQ
    · rw [if_neg hw] at h ⊢
      exact ⟨fun _ _ => trivial,y8 hQ l _ _ (fun o ho => hd o (by simp [ho])) h⟩
theorem uV {id : Nat} {l : List Oper} (hd : l.all noDefer = true) (hQ : ¬ LetsOut Q) (h : wpList P l.toArray Q l a w) : (Code.region id l.toArray false).wpIn (wf r) n P Q a w :=
  wpIn_region_lit (y8 hQ l a w (fun o ho => (List.all_eq_true.1 hd) o ho) h)
theorem xK (hQ : ¬ LetsOut Q) : ∀ (pre : List Oper) (a : Act) (w : World),(∀ o ∈ pre,noDefer o = true) → wpList P ops (Exit.then (fun a w => wpListIn (wf r) n P ops Q rest a w) Q) pre a w → wpListIn (wf r) n P ops Q (pre ++ rest) a w
  | [],_,_,_,h => h
  | o :: l,a,w,hd,h => by
    unfold wpList at h
    show wpListIn (wf r) n P ops Q (o :: (l ++ rest)) a w
    unfold wpListIn
    by_cases hw : Region.wanted o (yielded ops a.tmps) = true
    · rw [if_pos hw] at h ⊢
      rcases h with h | h
      · exact QH (hd o (by simp)) (fun a w h => xK hQ l a w (fun o ho => hd o (by simp [ho])) h) (fun _ _ _ h => h) hQ h
      · exact absurd h.2 hQ
    · rw [if_neg hw] at h ⊢
      exact ⟨fun _ _ => trivial,xK hQ l _ _ (fun o ho => hd o (by simp [ho])) h⟩
def QT (P : Program) (y : Value) (args : Array Value) (W : World) (R : Ending → World → Prop) : Prop :=
  ∃ d nx,(Deferred.ofValue y args).run P W = .ok d W ∧ (invoke d.target d.args).run P W = .ok nx W ∧
    match nx with
    | .enter f xs => CallsIn Fence.wide 0 P f xs W R
    | .round l f tmps assign body => RoundIn Fence.wide 0 P l f tmps assign body W R
    | _ => False
theorem QT.mono {y : Value} {args : Array Value} {W : World} {R R' : Ending → World → Prop} (h : QT P y args W R) (hr : ∀ e w,R e w → R' e w) : QT P y args W R':=by
  obtain ⟨d,nx,h1,h2,h3⟩:=h
  refine ⟨d,nx,h1,h2,?_⟩
  cases nx with
  | enter f xs => exact callsIn_wide.2 (Calls.mono (callsIn_wide.1 h3) hr)
  | round l f tmps assign body => exact RoundIn.mono h3 hr
  | _ => exact h3.elim
theorem J2 {y : Value} {vs : List Value} {R : Ending → World → Prop} (x : Operand) (xs : List Operand) (ts : Array TypeId) (hg : o.guard = none) (ho : o.op = .call { callee:=.value x,args:=xs.toArray,argTypes:=ts })
    (hx : a.eval x = y) (hxs0 : xs.map a.eval = vs) (h : QT P y vs.toArray w R) (hR : ∀ e w',R e w' → ∃ v,e = .returned v ∧ wpListIn (wf r) 1 P ops Q rest (a.put o.dst v) w') : wpListIn (wf r) 1 P ops Q (o :: rest) a w:=by
  refine wpListIn_plain hg fun K hK => ?_
  have hxs : xs.toArray.map a.eval = vs.toArray:=by rw [← hxs0];simp
  obtain ⟨d,nx,h1,h2,h3⟩:=h
  refine ⟨fun _ _ => trivial,?_⟩
  rw [Oper.semAt_eq _ _ _ (by intro c e;rw [ho] at e;cases e)]
  have hrun : (execOp a.eval o).run P w = .ok nx w:=by
    unfold execOp
    simp only [ho,resolve,hx,hxs,Sem.run_bind,h1,Result.andThen_ok,h2]
  rw [hrun]
  cases nx with
  | enter f xs =>
    rw [Oper.uponIn_enter]
    refine ⟨uZ,?_⟩
    show CallsIn (wf r) 0 P f xs w _
    exact QS (Calls.mono (callsIn_wide.1 h3) fun e w' he => by
      obtain ⟨v,rfl,hk⟩:=hR e w' he
      exact hK _ _ hk)
  | round l f tmps assign body =>
    rw [Oper.uponIn_round]
    refine ⟨uZ,?_⟩
    show RoundIn (wf r) 0 P l f tmps assign body w _
    exact RoundIn.mono h3 fun e w' he => by
      obtain ⟨v,rfl,hk⟩:=hR e w' he
      exact hK _ _ hk
  | _ => exact h3.elim
theorem hands_round {l : Nat} {rec : Loop} {args : Array Value} {R : Ending → World → Prop} (hl : w.heap[l]? = some (.loop rec)) (hs : args.size = rec.params.size) (hst : rec.state = .ready)
    (h : rec.assign.wpIn (wf (some l)) 0 P (Exit.then (fun a1 w1 => w1.heap[l]? = some (.loop rec) ∧ rec.body.wpIn (wf (some l)) 0 P (roundPost P l R) a1 (w1.putObj l (.loop { rec with state:=.busy }))) (fun _ _ _ => False))
      { tmps:=(rec.params.zip args).foldl (fun t (p,v) => t.setIfInBounds p v) rec.tmps,defers:=[] } w) : QT P (.func (.yield l) #[] #[]) args w R:=by
  refine ⟨{ target:=.fn (.yield l) #[],args:=args },.round l rec.fn ((rec.params.zip args).foldl (fun t (p,v) => t.setIfInBounds p v) rec.tmps) rec.assign rec.body,?_,?_,?_⟩
  · simp [Deferred.ofValue]
  · exact run_yield hl hs
  · refine roundIn_of_wpIn trivial (wpIn_mono h ?_)
    rintro e a1 w1 hq
    cases e with
    | normal => exact ⟨_,run_beginRound hq.1 hst,hq.2⟩
    | _ => exact hq.elim
theorem xX {g : Operand} {ps : Array Tmp} {assign body : Code} {gf : FuncId} {lb : Array Value} (hg : a.eval g = .func (.func gf) #[] lb) (eg : ∀ xs W,(callFunc gf xs).run P W = .ok (.enter gf xs) W)
    (h : ∀ (rec : Loop),rec.state = .ready → rec.pending = none → rec.tmps = a.tmps → rec.params = ps → rec.assign = assign → rec.body = body → ∀ W1,W1 = (w.alloc (.deferred (some []))).alloc (.loop rec) →
      Calls P gf (#[.func (.yield (w.heap.size + 1)) #[] #[]] ++ lb) W1 fun e w3 => (∃ v,e = .returned v) ∧ ∃ rec' : Loop,w3.heap[w.heap.size + 1]? = some (.loop rec') ∧ rec'.state ≠ .busy ∧
        (match rec'.pending with
         | none => Q .normal { a with defers:={ target:=.collected w.heap.size,args:=#[] } :: a.defers } (w3.putObj (w.heap.size + 1) (.loop { rec' with state:=.exhausted }))
         | some c => c.wp P Q { a with defers:={ target:=.collected w.heap.size,args:=#[] } :: a.defers } (w3.putObj (w.heap.size + 1) (.loop { rec' with state:=.exhausted })))) :
    (Code.rangeFunc g ps assign body).wp P Q a w:=by
  refine (wpIn_wide (n:=1)).1 (wpIn_rangeFunc fun fn _ => ?_)
  obtain ⟨rec,hrec⟩ : ∃ rec : Loop,rec = { state:=.ready,pending:=none,fn,tmps:=a.tmps,params:=ps,assign,body,defers:=w.heap.size }:=⟨_,rfl⟩
  obtain ⟨W1,hW1⟩ : ∃ W1,W1 = (w.alloc (.deferred (some []))).alloc (.loop rec):=⟨_,rfl⟩
  refine ⟨w.heap.size + 1,[{ target:=.collected w.heap.size,args:=#[] }],W1,{ target:=.fn (.func gf) lb,args:=#[.func (.yield (w.heap.size + 1)) #[] #[]] },W1,gf,
    #[.func (.yield (w.heap.size + 1)) #[] #[]] ++ lb,W1,?_,?_,fun _ _ => trivial,?_,fun _ => Nat.le_refl _,?_⟩
  · rw [hW1,hrec];exact run_enterLoop_outer _ _ _ _ _
  · simp only [resolve,hg]
    simp [go_sem]
  · simp [invoke,eg]
  · refine callsIn_wide.2 (Calls.mono (h rec (by rw [hrec]) (by rw [hrec]) (by rw [hrec]) (by rw [hrec]) (by rw [hrec]) (by rw [hrec]) W1 hW1) ?_)
    rintro e w3 ⟨⟨v,rfl⟩,rec',hl,hb,hq⟩
    refine ⟨rec'.pending,_,run_endLoop hl hb,?_⟩
    cases hp : rec'.pending with
    | none => rw [hp] at hq;exact hq
    | some c => rw [hp] at hq;exact wpIn_wide.2 hq
theorem foldl_zip (ps : List Tmp) (vs : List Value) (tm : Array Value) : (ps.toArray.zip vs.toArray).foldl (fun t (p,v) => t.setIfInBounds p v) tm = (ps.zip vs).foldl (fun t (p,v) => t.setIfInBounds p v) tm:=by simp
theorem Y7 {l : Nat} {rec : Loop} {vs : List Value} {R : Ending → World → Prop} {assign body : Code} {ps : List Tmp} {tm : Array Value} (hl : w.heap[l]? = some (.loop rec)) (hst : rec.state = .ready) (htm : rec.tmps = tm) (hps : rec.params = ps.toArray) (has : rec.assign = assign) (hbo : rec.body = body) (hs : vs.length = ps.length)
    (h : assign.wpIn (wf (some l)) 0 P (Exit.then (fun a1 w1 => w1.heap[l]? = some (.loop rec) ∧ body.wpIn (wf (some l)) 0 P (roundPost P l R) a1 (w1.putObj l (.loop { rec with state:=.busy }))) (fun _ _ _ => False))
      { tmps:=(ps.zip vs).foldl (fun t (p,v) => t.setIfInBounds p v) tm,defers:=[] } w) : QT P (.func (.yield l) #[] #[]) vs.toArray w R:=by
  subst has hbo
  refine hands_round hl (by rw [hps];simpa using hs) hst ?_
  have e : (rec.params.zip vs.toArray).foldl (fun t (p,v) => t.setIfInBounds p v) rec.tmps = (ps.zip vs).foldl (fun t (p,v) => t.setIfInBounds p v) tm:=by rw [hps,htm,foldl_zip]
  rw [e]
  exact h
theorem JX {W1 : World} {rec : Loop} (h : W1 = (w.alloc (.deferred (some []))).alloc (.loop rec)) : W1.heap[w.heap.size + 1]? = some (.loop rec) ∧ W1.heap[w.heap.size]? = some (.deferred (some [])) ∧ Below w.heap.size w W1 ∧ W1.heap.size = w.heap.size + 2:=by
  subst h
  refine ⟨?_,?_,?_,by simp⟩
  · have:=World.alloc_heap_new (w.alloc (.deferred (some []))) (.loop rec)
    rwa [World.size_alloc] at this
  · exact (Below.heap_alloc _ _ _ (by simp)).trans (World.alloc_heap_new w _)
  · exact ((Below.refl _ w).alloc (Nat.le_refl _) _).alloc (by simp) _
theorem Blk.put {W : World} {g l : Nat} {t : TypeId} {cs : List Value} (h : Blk W g t cs) (o : Obj) (hne : g ≠ l) : Blk (W.putObj l o) g t cs:=h.grown (grownBy_putObj' W l o) (fun e => hne (by cases e;rfl))
theorem rec_on {rec : Loop} (h1 : rec.state = .ready) (h2 : rec.pending = none) : ({ { rec with state:=.busy } with state:=if (none : Option Code).isNone then .ready else .done,pending:=none } : Loop) = rec:=by
  cases rec
  simp only at h1 h2
  subst h1 h2
  rfl
theorem zZ {m : Nat} {fn : Func} {R : Ending → World → Prop} {D : Nat} {v : Value} (hd : a.defers = [{ target:=.collected D,args:=#[] }]) (hD : w.heap[D]? = some (.deferred (some [])))
    (hr : (results fn a.tmps).run P (w.putObj D (.deferred none)) = .ok v (w.putObj D (.deferred none))) (h : R (.returned v) (w.putObj D (.deferred none))) : bodyPostM Fence.wide m P fn R .ret a w ∧ bodyPostM Fence.wide m P fn R .normal a w:=by
  have key : LeavesInM Fence.wide m P fn a.tmps R a.defers .returning w:=by
    rw [hd]
    exact ⟨by simp,.inl ⟨D,_,rfl,run_takeDeferred hD,v,hr,h⟩⟩
  exact ⟨key,key⟩
theorem QR {f : FuncId} {fn : Func} {c : Code} {args : Array Value} {R : Ending → World → Prop} (hf : P.funcs[f]? = some fn) (hb : fn.body = some c)
    (h : c.wp P (bodyPostM Fence.wide 1 P fn R) { tmps:=args ++ Array.replicate (fn.ntmps - args.size) undef,defers:=[] } w) : Calls P f args w R :=
  (callsIn_wide (n:=1)).1 (callsIn_of_wp_marks hf hb trivial (wpIn_wide.2 h))
end
theorem QN {p : Pg} {c : M.Cf} {t : Int} (h : M.lives c t = false) : M.enabled p c t = false:=by
  cases he : M.enabled p c t with
  | false => rfl
  | true =>
    obtain ⟨h0,h1⟩:=M.enabled_split he
    have h2:=M.enabled_lives h1
    unfold M.lives at h
    rw [h2,decide_eq_true h0] at h
    cases h
theorem QO {p : Pg} {c : M.Cf} {k : Nat} {x : Nd} (h : M.lives c (k : Int) = true) (hx : M.node p c k = x) : M.enabled p c (k : Int) =
    (if x.kind = 3 then decide (c.owners.getD x.arg.toNat 0 = 0) else if x.kind = 6 then !M.lives c (((M.th c k).slots.getD x.arg.toNat 0 : Int) - 1) else if x.kind = 5 then decide (c.ths.length < 8) else true):=by
  unfold M.enabled M.enabledN
  rw [M.lives_nat] at h
  rw [Int.toNat_natCast,h,hx]
  simp
theorem atNd_is {p : Pg} {c : M.Cf} {k : Nat} {x : Nd} (h : M.lives c (k : Int) = true) (hx : M.node p c k = x) : atNd p c (k : Int) = x:=by
  unfold atNd;rw [h,← hx];rfl
set_option maxRecDepth 100000 in
set_option maxHeartbeats 1600000 in
theorem yI (B : Nat) (p : Pg) (hf : Fine p) (q : Pc) (w : World) (hp : p.Ok w B) (hq : q.Ok w B) (hg : M.Good p q.cf) (hB : B ≤ w.heap.size) (t : Int) (ht : I64 t) (b : Bool) (hb : M.enabled p q.cf t = b) :
    Calls Try.prog 79 #[pcA q,pgA p,.int .i64 t] w fun e w' => e = .returned (.bool b) ∧ Below w.heap.size w w':=by
  have h8 : q.len ≤ 8:=by rw [← hq.len];exact hg.most
  have hq17 : (pcC q).length = 17:=jW hg.owns
  have HQ17:=kp hq17
  have HP:=kp hp;have HQ:=kp hq;have HT:=kp ht;have HG:=kp hg;have HFine:=kp hf
  have hqc:=hq.lc;have hqm:=hq.cm
  unfold maxLen at hqm
  cases hlv : M.lives q.cf t
  · have hbf:=QN (p:=p) hlv
    rw [hbf] at hb
    subst hb
    have HLv:=kp hlv
    have HX : Kept (atNd p q.cf t = ⟨0,0,0,0⟩):=kp (by unfold atNd;rw [hlv];rfl)
    clear hp hq ht hg hf hq17 hlv hbf
    rw [qS,jL]
    go_enter Try.func79,Try.ntmps79
    go_wp2_with (first
      | ((with_reducible refine j6 rfl 91 (.tmp 0) rfl (pcC q) rfl ?_);intro g1 w1 hg1 hk1 hw1;have HK1:=kp hk1;have HW1:=kp hw1;have hs1:=hw1.size;have hl1:=hk1.lt;clear hk1 hw1)
      | ((with_reducible refine j6 rfl 46 (.tmp 1) rfl (pgC p) rfl ?_);intro g2 w2 hg2 hk2 hw2;have HK12:=kp (HK1.out.below hw2 hl1);have HK2:=kp hk2;have HW2:=kp (HW1.out.trans (hw2.mono hs1));have hs2:=HW2.out.size;have hl12:=HK12.out.lt;have hl2:=hk2.lt;clear hk2 hw2)
      | ((with_reducible show Sl 10);go_must (refine j4 rfl 91 (.tmp 3) rfl g1 rfl _ (pcC q) _ HK12.out Try.underlying91 rfl (by rw [HQ17.out];exact jC) ?_))
      | ((with_reducible show Sl 11);go_must (refine j4 rfl 46 (.tmp 4) rfl g2 rfl _ (pgC p) _ HK2.out Try.underlying46 rfl jF ?_))
      | (go_at_call 80;go_must (refine (yN B p HFine.out q w2 (HP.out.below (HW2.out.mono hB)) (HQ.out.below (HW2.out.mono hB)) HG.out (by omega) (t) HT.out false HLv.out (⟨0,0,0,0⟩) HX.out).mono ?_);rintro e w4 ⟨rfl,hb4⟩
         have HW4:=kp (HW2.out.trans (hb4.mono hs2));have HK14:=kp (HK12.out.below hb4 hl12);have hl14:=HK14.out.lt;have hs4:=HW4.out.size;clear hb4)
      | ((with_reducible show Sl 7);go_must (refine j7 rfl 97 rfl (ndC ⟨0,0,0,0⟩) l0 ?_);intro g3 w5 hg3 hk5 hw5
         have HK35:=kp hk5;have HK15:=kp (HK14.out.below hw5 hl14);have HW5:=kp (HW4.out.trans (hw5.mono hs4));have hs5:=HW5.out.size;have hl35:=hk5.lt;clear hk5 hw5)
      | ((with_reducible show Sn);go_must (refine j5 rfl 97 (.tmp 7) (.tmp 14) rfl g3 (ndC (⟨0,0,0,0⟩)) rfl rfl _ _ HK35.out jO rfl (l5 _) ?_);intro w6 hk6 hg6 hs6
         have HK16:=kp (HK15.out.grown hg6 (fun e => by cases e;omega));have HK36:=kp hk6;have HW6:=kp (HW5.out.grown hg6 hs5 (fun k e => by cases e;omega));clear hg6;clear hk6))
    go_ret
    exact ⟨rfl,HW6.out⟩
  · obtain ⟨k,rfl⟩ : ∃ k : Nat,t = (k : Int):=⟨t.toNat,by
      unfold M.lives at hlv
      rw [Bool.and_eq_true,decide_eq_true_eq] at hlv
      omega⟩
    obtain ⟨x,hx⟩ : ∃ x,M.node p q.cf k = x:=⟨_,rfl⟩
    have hlv2:=hlv
    rw [M.lives_nat] at hlv2
    have hkl : k < q.len:=by rw [← hq.len];exact M.lives_lt hlv2
    obtain ⟨fn,hfn,_,_⟩:=M.node_is hg hlv2
    have hfit:=M.node_fit hf hg hlv2 hfn
    rw [hx] at hfit
    have HLv:=kp hlv
    have HX:=kp (atNd_is hlv hx)
    rw [QO hlv hx] at hb
    obtain ⟨ad,th,hA,hadB,hth,hsok,hthc,hsl,hc0,hcs⟩:=hq.thread hkl
    rw [hthc] at hb
    obtain ⟨a,ha⟩ : ∃ a : Nat,x.arg = (a : Int):=⟨x.arg.toNat,by have:=hfit.arg;omega⟩
    rw [ha,Int.toNat_natCast] at hb
    have h16:=hg.owns
    have HE : Kept (pcC q = .slice (some ad) q.len q.cap :: q.ow.map natV):=kp (by unfold pcC;rw [hA])
    have hEx : Kept (ndC x = [.int .i64 x.kind,.int .i64 (a : Int),.int .i64 x.next,.int .i64 x.alt]):=kp (by unfold ndC;rw [ha])
    by_cases k3 : x.kind = 3
    · rw [if_pos k3] at hb
      have hal:=hfit.lock (.inl k3)
      have HO : Kept ((pcC q)[1 + a]? = some (.int .i64 (q.ow.getD a 0 : Int))):=kp (by rw [HE.out,show 1 + a = a + 1 by omega,List.getElem?_cons_succ];exact QE h16 (by omega))
      have HB : Kept (((q.ow.getD a 0 : Int) == 0) = b):=kp (by rw [← hb,Bool.eq_iff_iff,beq_iff_eq,decide_eq_true_eq];show _ ↔ q.ow.getD a 0 = 0;omega)
      obtain ⟨o,ho⟩ : ∃ o,q.ow.getD a 0 = o:=⟨_,rfl⟩
      rw [ho] at HO HB
      have e3 : (x.kind == 3) = true:=by rw [beq_iff_eq];exact k3
      have ha16 : a < 16:=by omega
      clear hp hq ht hg hf hq17 hlv hlv2 hb hx hfit hth hsok hthc hsl hc0 hcs ha hA hfn ho k3 hal
      rw [qS,jL]
      go_enter Try.func79,Try.ntmps79
      go_wp2_with (first
        | ((with_reducible refine j6 rfl 91 (.tmp 0) rfl (pcC q) rfl ?_);intro g1 w1 hg1 hk1 hw1;have HK1:=kp hk1;have HW1:=kp hw1;have hs1:=hw1.size;have hl1:=hk1.lt;clear hk1 hw1)
        | ((with_reducible refine j6 rfl 46 (.tmp 1) rfl (pgC p) rfl ?_);intro g2 w2 hg2 hk2 hw2;have HK12:=kp (HK1.out.below hw2 hl1);have HK2:=kp hk2;have HW2:=kp (HW1.out.trans (hw2.mono hs1));have hs2:=HW2.out.size;have hl12:=HK12.out.lt;have hl2:=hk2.lt;clear hk2 hw2)
        | ((with_reducible show Sl 10);go_must (refine j4 rfl 91 (.tmp 3) rfl g1 rfl _ (pcC q) _ HK12.out Try.underlying91 rfl (by rw [HQ17.out];exact jC) ?_))
        | ((with_reducible show Sl 11);go_must (refine j4 rfl 46 (.tmp 4) rfl g2 rfl _ (pgC p) _ HK2.out Try.underlying46 rfl jF ?_))
        | (go_at_call 80;go_must (refine (yN B p HFine.out q w2 (HP.out.below (HW2.out.mono hB)) (HQ.out.below (HW2.out.mono hB)) HG.out (by omega) ((k : Int)) HT.out true HLv.out (x) HX.out).mono ?_);rintro e w4 ⟨rfl,hb4⟩
           have HW4:=kp (HW2.out.trans (hb4.mono hs2));have HK14:=kp (HK12.out.below hb4 hl12);have hl14:=HK14.out.lt;have hs4:=HW4.out.size;clear hb4)
        | ((with_reducible show Sl 7);go_must (refine j7 rfl 97 rfl (ndC ⟨0,0,0,0⟩) l0 ?_);intro g3 w5 hg3 hk5 hw5
           have HK35:=kp hk5;have HK15:=kp (HK14.out.below hw5 hl14);have HW5:=kp (HW4.out.trans (hw5.mono hs4));have hs5:=HW5.out.size;have hl35:=hk5.lt;clear hk5 hw5)
        | ((with_reducible show Sn);go_must (refine j5 rfl 97 (.tmp 7) (.tmp 14) rfl g3 (ndC (x)) rfl rfl _ _ HK35.out jO rfl (l5 _) ?_);intro w6 hk6 hg6 hs6
           have HK16:=kp (HK15.out.grown hg6 (fun e => by cases e;omega));have HK36:=kp hk6;have HW6:=kp (HW5.out.grown hg6 hs5 (fun k e => by cases e;omega));clear hg6
           rw [hEx.out] at hk6;have hx0:=hk6.cell 0;have hx1:=hk6.cell 1;simp only [List.getElem?_cons_zero,List.getElem?_cons_succ] at hx0 hx1;clear hk6
           have hc1:=(HK16.out.cell (1 + a)).trans HO.out))
      go_ret
      exact ⟨jQ HB.out,HW6.out⟩
    rw [if_neg k3] at hb
    have e3 : (x.kind == 3) = false:=by rw [beq_eq_false_iff_ne];exact k3
    by_cases k6 : x.kind = 6
    · rw [if_pos k6] at hb
      have hal:=hfit.join k6
      have e6 : (x.kind == 6) = true:=by rw [beq_iff_eq];exact k6
      have ha8 : a < 8:=by omega
      obtain ⟨o,ho⟩ : ∃ o,(tvT th).slots.getD a 0 = o:=⟨_,rfl⟩
      rw [ho] at hb
      have hoc : w.cell? ⟨(ad.add (k * 9)).block,(ad.add (k * 9)).off + 1 + a,none⟩ = some (.int .i64 (o : Int)):=by
        rcases hcs a with h | h
        · rw [show (ad.add (k * 9)).off + 1 + a = (ad.add (k * 9)).off + (a + 1) by omega,h,← ho];rfl
        · omega
      have HOc:=kp hoc
      have ho8 : o ≤ 8:=by
        have h1:=hg.slot (tvT th) (List.mem_map_of_mem (List.mem_of_getElem? hth))
        have h2:=hg.eight (tvT th) (List.mem_map_of_mem (List.mem_of_getElem? hth))
        rw [← ho,List.getD_eq_getElem?_getD,List.getElem?_eq_getElem (by omega)]
        exact h1 _ (List.getElem_mem _)
      obtain ⟨bl,hbl⟩ : ∃ bl,M.lives q.cf ((o : Int) - 1) = bl:=⟨_,rfl⟩
      rw [hbl] at hb
      have HBl:=kp hbl
      have HI1 : Kept (I64 ((o : Int) - 1)):=kp (by unfold I64;omega)
      subst hb
      clear hp hq ht hg hf hq17 hlv hlv2 hx hfit hth hsok hthc hsl hc0 hcs ha hA hfn ho k3 hal hoc hbl k6
      rw [qS,jL]
      go_enter Try.func79,Try.ntmps79
      go_wp2_with (first
        | ((with_reducible refine j6 rfl 91 (.tmp 0) rfl (pcC q) rfl ?_);intro g1 w1 hg1 hk1 hw1;have HK1:=kp hk1;have HW1:=kp hw1;have hs1:=hw1.size;have hl1:=hk1.lt;clear hk1 hw1)
        | ((with_reducible refine j6 rfl 46 (.tmp 1) rfl (pgC p) rfl ?_);intro g2 w2 hg2 hk2 hw2;have HK12:=kp (HK1.out.below hw2 hl1);have HK2:=kp hk2;have HW2:=kp (HW1.out.trans (hw2.mono hs1));have hs2:=HW2.out.size;have hl12:=HK12.out.lt;have hl2:=hk2.lt;clear hk2 hw2)
        | ((with_reducible show Sl 10);go_must (refine j4 rfl 91 (.tmp 3) rfl g1 rfl _ (pcC q) _ HK12.out Try.underlying91 rfl (by rw [HQ17.out];exact jC) ?_))
        | ((with_reducible show Sl 11);go_must (refine j4 rfl 46 (.tmp 4) rfl g2 rfl _ (pgC p) _ HK2.out Try.underlying46 rfl jF ?_))
        | (go_at_call 80;go_must (refine (yN B p HFine.out q w2 (HP.out.below (HW2.out.mono hB)) (HQ.out.below (HW2.out.mono hB)) HG.out (by omega) ((k : Int)) HT.out true HLv.out (x) HX.out).mono ?_);rintro e w4 ⟨rfl,hb4⟩
           have HW4:=kp (HW2.out.trans (hb4.mono hs2));have HK14:=kp (HK12.out.below hb4 hl12);have hl14:=HK14.out.lt;have hs4:=HW4.out.size;clear hb4)
        | ((with_reducible show Sl 7);go_must (refine j7 rfl 97 rfl (ndC ⟨0,0,0,0⟩) l0 ?_);intro g3 w5 hg3 hk5 hw5
           have HK35:=kp hk5;have HK15:=kp (HK14.out.below hw5 hl14);have HW5:=kp (HW4.out.trans (hw5.mono hs4));have hs5:=HW5.out.size;have hl35:=hk5.lt;clear hk5 hw5)
        | ((with_reducible show Sn);go_must (refine j5 rfl 97 (.tmp 7) (.tmp 14) rfl g3 (ndC (x)) rfl rfl _ _ HK35.out jO rfl (l5 _) ?_);intro w6 hk6 hg6 hs6
           have HK16:=kp (HK15.out.grown hg6 (fun e => by cases e;omega));have HK36:=kp hk6;have HW6:=kp (HW5.out.grown hg6 hs5 (fun k e => by cases e;omega));clear hg6
           rw [hEx.out] at hk6;have hx0:=hk6.cell 0;simp only [List.getElem?_cons_zero] at hx0;have HX6:=kp hk6;clear hk6))
      have hd1:=HK16.out.lt;have hd3:=HK36.out.lt
      apply qM (.is (pcA q) :: .is _ :: .is _ :: .is _ :: .is _ :: .is _ :: .is _ :: .is _ :: .is _ :: .is _ :: .is _ :: .is _ :: .is _ :: .is _ :: [])
        [[],[],[(1,31)],[],[],[(4,34)],[(2,32),(3,33)],[(6,36)],[(7,37),(5,35)],[(8,38)],[(9,39)],[(0,30),(10,40)],[(11,41)],[(12,42)]]
        [(0,30),(1,31),(2,32),(3,33),(4,34),(5,35),(6,36),(7,37),(8,38),(9,39),(10,40),(11,41),(12,42),(13,6)] (by kernel_rfl) (by kernel_rfl)
      case hob =>
        refine ⟨?o0,?o1,?o2,?o3,?o4,?o5,?o6,?o7,?o8,?o9,?o10,?o11,?o12,?o13,trivial⟩
        case o0 =>
          intro W hW;change wpList _ _ _ _ _ _
          have HKw:=kp (HK16.out.below hW hd1)
          go_wp2_with ((with_reducible show Sl 30);go_must (refine j4 rfl 91 (.tmp 3) rfl g1 rfl _ (pcC q) _ HKw.out Try.underlying91 rfl (by rw [HQ17.out];exact jC) ?_))
          exact j0 rfl rfl rfl
        case o1 => intro W hW;change wpList _ _ _ _ _ _;go_wp2;exact j0 rfl rfl rfl
        case o2 =>
          intro W hW;rintro _ rfl;change wpList _ _ _ _ _ _
          have hc:=(HK16.out.below hW hd1).cell 0
          rw [HE.out,List.getElem?_cons_zero] at hc
          go_wp2;exact j0 rfl rfl rfl
        case o3 => intro W hW;change wpList _ _ _ _ _ _;go_wp2;exact j0 rfl rfl rfl
        case o4 => intro W hW;change wpList _ _ _ _ _ _;go_wp2;exact j0 rfl rfl rfl
        case o5 =>
          intro W hW;rintro _ rfl;change wpList _ _ _ _ _ _
          have hc:=(HX6.out.below hW hd3).cell 1
          simp only [List.getElem?_cons_zero,List.getElem?_cons_succ] at hc
          go_wp2;exact j0 rfl rfl rfl
        case o6 => intro W hW;rintro _ rfl;rintro _ rfl;change wpList _ _ _ _ _ _;go_wp2;exact j0 rfl rfl rfl
        case o7 => intro W hW;rintro _ rfl;change wpList _ _ _ _ _ _;go_wp2;exact j0 rfl rfl rfl
        case o8 => intro W hW;rintro _ rfl;rintro _ rfl;change wpList _ _ _ _ _ _;go_wp2;exact j0 rfl rfl rfl
        case o9 =>
          intro W hW;rintro _ rfl;change wpList _ _ _ _ _ _
          have hc:=((HW6.out.trans (hW.mono HW6.out.size)).cell (p:=⟨(ad.add (k * 9)).block,(ad.add (k * 9)).off + 1 + a,none⟩) (by show (ad.add (k * 9)).block < _;rw [add_block];omega)).trans HOc.out
          go_wp2;exact j0 rfl rfl rfl
        case o10 =>
          intro W hW;rintro _ rfl;change wpList _ _ _ _ _ _
          go_wp2_with fail
          refine (sem_unmark o (by omega) W).mono ?_
          rintro e w2 ⟨rfl,rfl⟩
          go_wp2
          exact j0 rfl rfl rfl
        case o11 =>
          intro W hW;rintro _ rfl;rintro _ rfl;change wpList _ _ _ _ _ _
          go_wp2_with fail
          refine (JA B q W (HQ.out.below ((HW6.out.trans (hW.mono HW6.out.size)).mono hB)) (by have:=(HW6.out.trans (hW.mono HW6.out.size)).size;omega) (by omega) ((o : Int) - 1) HI1.out bl HBl.out).mono ?_
          rintro e w2 ⟨rfl,hb2⟩
          have HB2:=kp hb2;clear hb2
          go_wp2
          exact jG rfl rfl rfl HB2.out rfl
        case o12 => intro W hW;rintro _ rfl;change wpList _ _ _ _ _ _;go_wp2;exact j0 rfl rfl rfl
        case o13 => intro W hW;rintro _ rfl;change wpList _ _ _ _ _ _;go_wp2;exact j0 rfl rfl rfl
      case hend =>
        intro W hW;rintro _ rfl;rintro _ rfl;rintro _ rfl;rintro _ rfl;rintro _ rfl;rintro _ rfl;rintro _ rfl;rintro _ rfl;rintro _ rfl;rintro _ rfl;rintro _ rfl;rintro _ rfl;rintro _ rfl;rintro _ rfl
        simp only [given,jJ,List.set]
        have HWw:=kp (HW6.out.trans (hW.mono HW6.out.size))
        clear hW
        go_wp2
        go_ret
        exact ⟨rfl,HWw.out⟩
    rw [if_neg k6] at hb
    have e6 : (x.kind == 6) = false:=by rw [beq_eq_false_iff_ne];exact k6
    by_cases k5 : x.kind = 5
    · rw [if_pos k5,hq.len] at hb
      have e5 : (x.kind == 5) = true:=by rw [beq_iff_eq];exact k5
      have HB : Kept (decide ((q.len : Int) < 8) = b):=kp (by rw [← hb,Bool.eq_iff_iff,decide_eq_true_eq,decide_eq_true_eq];omega)
      clear hp hq ht hg hf hq17 hlv hlv2 hb hx hfit hth hsok hthc hsl hc0 hcs ha hA hfn k3 k6 k5
      rw [qS,jL]
      go_enter Try.func79,Try.ntmps79
      go_wp2_with (first
        | ((with_reducible refine j6 rfl 91 (.tmp 0) rfl (pcC q) rfl ?_);intro g1 w1 hg1 hk1 hw1;have HK1:=kp hk1;have HW1:=kp hw1;have hs1:=hw1.size;have hl1:=hk1.lt;clear hk1 hw1)
        | ((with_reducible refine j6 rfl 46 (.tmp 1) rfl (pgC p) rfl ?_);intro g2 w2 hg2 hk2 hw2;have HK12:=kp (HK1.out.below hw2 hl1);have HK2:=kp hk2;have HW2:=kp (HW1.out.trans (hw2.mono hs1));have hs2:=HW2.out.size;have hl12:=HK12.out.lt;have hl2:=hk2.lt;clear hk2 hw2)
        | ((with_reducible show Sl 10);go_must (refine j4 rfl 91 (.tmp 3) rfl g1 rfl _ (pcC q) _ HK12.out Try.underlying91 rfl (by rw [HQ17.out];exact jC) ?_))
        | ((with_reducible show Sl 11);go_must (refine j4 rfl 46 (.tmp 4) rfl g2 rfl _ (pgC p) _ HK2.out Try.underlying46 rfl jF ?_))
        | (go_at_call 80;go_must (refine (yN B p HFine.out q w2 (HP.out.below (HW2.out.mono hB)) (HQ.out.below (HW2.out.mono hB)) HG.out (by omega) ((k : Int)) HT.out true HLv.out (x) HX.out).mono ?_);rintro e w4 ⟨rfl,hb4⟩
           have HW4:=kp (HW2.out.trans (hb4.mono hs2));have HK14:=kp (HK12.out.below hb4 hl12);have hl14:=HK14.out.lt;have hs4:=HW4.out.size;clear hb4)
        | ((with_reducible show Sl 7);go_must (refine j7 rfl 97 rfl (ndC ⟨0,0,0,0⟩) l0 ?_);intro g3 w5 hg3 hk5 hw5
           have HK35:=kp hk5;have HK15:=kp (HK14.out.below hw5 hl14);have HW5:=kp (HW4.out.trans (hw5.mono hs4));have hs5:=HW5.out.size;have hl35:=hk5.lt;clear hk5 hw5)
        | ((with_reducible show Sn);go_must (refine j5 rfl 97 (.tmp 7) (.tmp 14) rfl g3 (ndC (x)) rfl rfl _ _ HK35.out jO rfl (l5 _) ?_);intro w6 hk6 hg6 hs6
           have HK16:=kp (HK15.out.grown hg6 (fun e => by cases e;omega));have HK36:=kp hk6;have HW6:=kp (HW5.out.grown hg6 hs5 (fun k e => by cases e;omega));clear hg6
           rw [hEx.out] at hk6;have hx0:=hk6.cell 0;simp only [List.getElem?_cons_zero] at hx0;clear hk6
           have hc0:=HK16.out.cell 0;rw [HE.out,List.getElem?_cons_zero] at hc0))
      go_ret
      exact ⟨jQ HB.out,HW6.out⟩
    rw [if_neg k5] at hb
    subst hb
    have e5 : (x.kind == 5) = false:=by rw [beq_eq_false_iff_ne];exact k5
    clear hp hq ht hg hf hq17 hlv hlv2 hx hfit hth hsok hthc hsl hc0 hcs ha hA hfn k3 k6 k5
    rw [qS,jL]
    go_enter Try.func79,Try.ntmps79
    go_wp2_with (first
      | ((with_reducible refine j6 rfl 91 (.tmp 0) rfl (pcC q) rfl ?_);intro g1 w1 hg1 hk1 hw1;have HK1:=kp hk1;have HW1:=kp hw1;have hs1:=hw1.size;have hl1:=hk1.lt;clear hk1 hw1)
      | ((with_reducible refine j6 rfl 46 (.tmp 1) rfl (pgC p) rfl ?_);intro g2 w2 hg2 hk2 hw2;have HK12:=kp (HK1.out.below hw2 hl1);have HK2:=kp hk2;have HW2:=kp (HW1.out.trans (hw2.mono hs1));have hs2:=HW2.out.size;have hl12:=HK12.out.lt;have hl2:=hk2.lt;clear hk2 hw2)
      | ((with_reducible show Sl 10);go_must (refine j4 rfl 91 (.tmp 3) rfl g1 rfl _ (pcC q) _ HK12.out Try.underlying91 rfl (by rw [HQ17.out];exact jC) ?_))
      | ((with_reducible show Sl 11);go_must (refine j4 rfl 46 (.tmp 4) rfl g2 rfl _ (pgC p) _ HK2.out Try.underlying46 rfl jF ?_))
      | (go_at_call 80;go_must (refine (yN B p HFine.out q w2 (HP.out.below (HW2.out.mono hB)) (HQ.out.below (HW2.out.mono hB)) HG.out (by omega) ((k : Int)) HT.out true HLv.out (x) HX.out).mono ?_);rintro e w4 ⟨rfl,hb4⟩
         have HW4:=kp (HW2.out.trans (hb4.mono hs2));have HK14:=kp (HK12.out.below hb4 hl12);have hl14:=HK14.out.lt;have hs4:=HW4.out.size;clear hb4)
      | ((with_reducible show Sl 7);go_must (refine j7 rfl 97 rfl (ndC ⟨0,0,0,0⟩) l0 ?_);intro g3 w5 hg3 hk5 hw5
         have HK35:=kp hk5;have HK15:=kp (HK14.out.below hw5 hl14);have HW5:=kp (HW4.out.trans (hw5.mono hs4));have hs5:=HW5.out.size;have hl35:=hk5.lt;clear hk5 hw5)
      | ((with_reducible show Sn);go_must (refine j5 rfl 97 (.tmp 7) (.tmp 14) rfl g3 (ndC (x)) rfl rfl _ _ HK35.out jO rfl (l5 _) ?_);intro w6 hk6 hg6 hs6
         have HK16:=kp (HK15.out.grown hg6 (fun e => by cases e;omega));have HK36:=kp hk6;have HW6:=kp (HW5.out.grown hg6 hs5 (fun k e => by cases e;omega));clear hg6
         rw [hEx.out] at hk6;have hx0:=hk6.cell 0;simp only [List.getElem?_cons_zero] at hx0;clear hk6))
    go_ret
    exact ⟨rfl,HW6.out⟩
def turnC (gN k : Nat) (way : Bool) (x : Nd) : List Value:=[.pointer (some ⟨gN,0,none⟩),.int .i64 (k : Int),.bool way,.int .i64 x.kind,.int .i64 x.arg,.int .i64 x.next,.int .i64 x.alt]
theorem xA (a : Act) (v : Value) : a.put none v = a:=rfl
set_option maxRecDepth 100000 in
set_option maxHeartbeats 800000 in
theorem y6 (gU gN gT k n c : Nat) (way : Bool) (x : Nd) (w : World) (hu : Blk w gU 185 (turnC gN k way x)) (hn : w.cell? ⟨gN,0,none⟩ = some (.slice (some ⟨gT,0,none⟩) n c)) (hk : k < n) :
    Calls Try.prog 115 #[.pointer (some ⟨gU,0,none⟩)] w fun e w' => e = .returned (.pointer (some ⟨gT,k * 9,none⟩)) ∧ ∃ m,w' = w.drewN m:=by
  have h0:=hu.cell 0;have h1:=hu.cell 1
  simp only [turnC,List.getElem?_cons_zero,List.getElem?_cons_succ] at h0 h1
  have hkn : (k : Int) < (n : Int):=by omega
  clear hu
  go_enter Try.func115,Try.ntmps115
  go_wp2
  go_quiet (fail)
  go_wp2
  go_ret
  exact ⟨rfl,_,rfl⟩
set_option maxRecDepth 100000 in
set_option maxHeartbeats 1600000 in
theorem yT (B gN gU k : Nat) (q : Pc) (x : Nd) (way : Bool) (th : Tv) (w : World) (hst : St w B gN gU q) (hu : Blk w gU 185 (turnC gN k way x)) (hkl : k < q.len) (hth : q.tvs[k]? = some th) (hs0 : 0 < th.sv.len) (hlen16 : th.sv.len ≤ 1000) (_h8 : q.len ≤ 8) (nx : Nat) (hnx : x.next = (nx : Int)) :
    Calls Try.prog 106 #[.pointer (some ⟨gU,0,none⟩)] w fun e w' => e = .returned (.tuple #[]) ∧ St w' B gN gU (q.put k (tvGo th nx)) ∧ Blk w' gU 185 (turnC gN k way x) ∧ Below B w w':=by
  obtain ⟨gT,curT,th',hA,hbT,hth',hcT0,hcTj,hTN,hTU,hBT,hsl,hthc,hcTl⟩:=hst.thread hkl
  rw [hth] at hth'
  cases hth'
  obtain ⟨gS,cur,hSA,hbS,hlen,hSN,hSU,hBS,hput⟩:=hst.goes hth hs0
  have hbound:=hst.ok
  have hqc:=hbound.lc;have hqm:=hbound.cm
  unfold maxLen at hqm
  have HE : Kept (pcC q = .slice (some ⟨gT,0,none⟩) q.len q.cap :: q.ow.map natV):=kp (by unfold pcC;rw [hA])
  have hgN:=hst.conf.lt;have hgU:=hu.lt;have hgT:=hbT.lt;have hgS:=hbS.lt
  have HSt:=kp hst;have HK:=kp hu;have HT:=kp hbT;have HS:=kp hbS;have HPut:=kp hput
  have hxc:=hbound.svs th (List.mem_of_getElem? hth)
  have hxc2:=hxc.lc;have hxm:=hxc.cm
  unfold maxLen at hxm
  rw [hSA] at hcT0
  have HC0:=kp hcT0
  have hlow:=hst.low.1
  have hBw : B ≤ w.heap.size:=by omega
  have HLow:=kp hst.low
  obtain ⟨n,hn⟩ : ∃ n,th.sv.len = n:=⟨_,rfl⟩
  obtain ⟨cp,hcp⟩ : ∃ cp,th.sv.cap = cp:=⟨_,rfl⟩
  have HThl:=kp hn
  rw [hn] at HC0 hs0 hlen16 hxc2 hlen HPut
  rw [hcp] at HC0 hxc2 hxm
  have HB : Kept (Below B w w):=kp (Below.refl _ _)
  clear hst hu hth hput hbT hbS hcT0 hcTj hthc hcTl hsl hbound hxc hn hcp hSA hA
  go_enter Try.func106,Try.ntmps106
  go_wp2
  apply jH 10 (.is _ :: .is _ :: .is _ :: .is _ :: .is _ :: .is _ :: .is _ :: .is _ :: .is _ :: .is _ :: [])
    [[],[(0,2)],[(1,3)],[],[(3,5)],[(4,6)],[(5,7)],[(6,8)],[(2,4)],[(8,10)],[(9,11),(7,9)]]
    [(0,2),(1,3),(2,4),(3,5),(4,6),(5,7),(6,8),(7,9),(8,10),(9,11)] (by kernel_rfl) (by kernel_rfl) (by kernel_rfl) (by kernel_rfl) (by kernel_rfl)
  case hob =>
    refine ⟨?o0,?o1,?o2,?o3,?o4,?o5,?o6,?o7,?o8,?o9,trivial⟩
    case o0 => intro W hW;change wpList _ _ _ _ _ _;go_wp2;exact j0 rfl rfl rfl
    case o1 =>
      intro W hW;rintro _ rfl;change wpList _ _ _ _ _ _
      have hCu:=(HK.out.below hW hgU)
      have hCn:=((HSt.out.conf.below hW hgN).cell 0)
      rw [HE.out,List.getElem?_cons_zero] at hCn
      have HC:=kp (y6 gU gN gT k q.len q.cap way x W hCu hCn hkl)
      clear hCu hCn
      go_wp2_with fail
      refine (HC.out).mono ?_
      rintro e w2 ⟨rfl,m,rfl⟩
      go_wp2
      exact jG rfl rfl rfl (below_drewN (Below.refl _ _) m) rfl
    case o2 =>
      intro W hW;rintro _ rfl;change wpList _ _ _ _ _ _
      have hc:=(HT.out.below hW hgT).cell (k * 9)
      rw [HC0.out] at hc
      have hC:=LW ⟨gT,k * 9,none⟩ ⟨gS,0,none⟩ n cp W hs0 hlen16 hc
      rw [yW] at hC
      have HC:=kp hC
      clear hc hC
      go_wp2_with fail
      refine (HC.out).mono ?_
      rintro e w2 ⟨rfl,m,rfl⟩
      go_wp2
      exact jG rfl rfl rfl (below_drewN (Below.refl _ _) m) rfl
    case o3 => intro W hW;change wpList _ _ _ _ _ _;go_wp2;exact j0 rfl rfl rfl
    case o4 => intro W hW;rintro _ rfl;change wpList _ _ _ _ _ _;go_wp2;exact j0 rfl rfl rfl
    case o5 => intro W hW;rintro _ rfl;change wpList _ _ _ _ _ _;go_wp2;exact j0 rfl rfl rfl
    case o6 => intro W hW;rintro _ rfl;change wpList _ _ _ _ _ _;go_wp2;exact j0 rfl rfl rfl
    case o7 =>
      intro W hW;rintro _ rfl;change wpList _ _ _ _ _ _
      have hc:=(HK.out.below hW hgU).cell 5
      simp only [turnC,List.getElem?_cons_zero,List.getElem?_cons_succ] at hc
      go_wp2;exact j0 rfl rfl rfl
    case o8 => intro W hW;rintro _ rfl;change wpList _ _ _ _ _ _;go_wp2;exact j0 rfl rfl rfl
    case o9 => intro W hW;rintro _ rfl;change wpList _ _ _ _ _ _;go_wp2;exact j0 rfl rfl rfl
  case hend =>
    intro W hW;rintro _ rfl;rintro _ rfl;rintro _ rfl;rintro _ rfl;rintro _ rfl;rintro _ rfl;rintro _ rfl;rintro _ rfl;rintro _ rfl;rintro _ rfl
    simp only [given,jJ,List.set,List.drop]
    have HKw:=kp (HS.out.below hW hgS)
    have HStw:=kp (HSt.out.below hW (Nat.le_refl _))
    have HBw:=kp (hW.mono hBw)
    have HKu:=kp (HK.out.below hW hgU)
    have hWs:=hW.size
    have HWg:=kp hW
    have hsw:=HBw.out.size
    clear hW
    go_wp2_with (first
      | ((with_reducible show Sn);go_must (refine j9 rfl 3 (.tmp 11) (.tmp 9) rfl gS ((n - 1) * 2 + 1) (.int .i64 (nx : Int)) rfl rfl rfl rfl _ _ HKw.out hlen lS ?_);intro w5 hk5 hg5 hs5;have HFin:=kp (HPut.out W w5 nx HWg.out hk5 hg5 hs5);have HKu5:=kp (HKu.out.grown hg5 (fun e => hSU (by cases e;rfl)));have HB5:=kp (HBw.out.grown hg5 (by omega) (fun k e => by cases e;exact hBS));clear hk5 hg5))
    go_end0
    exact ⟨rfl,HFin.out,HKu5.out,HB5.out⟩
set_option maxRecDepth 100000 in
set_option maxHeartbeats 1600000 in
theorem sem_lock (B gN gU k : Nat) (q : Pc) (x : Nd) (way : Bool) (th : Tv) (w : World) (hst : St w B gN gU q) (hu : Blk w gU 185 (turnC gN k way x)) (hkl : k < q.len) (hth : q.tvs[k]? = some th) (hs0 : 0 < th.sv.len) (hlen16 : th.sv.len ≤ 1000) (h8 : q.len ≤ 8) (nx : Nat) (hnx : x.next = (nx : Int)) (a : Nat) (ha : x.arg = (a : Int)) (ha16 : a < 16) (how : q.ow.length = 16) (hk3 : x.kind = 3) :
    Calls Try.prog 107 #[.pointer (some ⟨gU,0,none⟩)] w fun e w' => e = .returned (.tuple #[]) ∧ ∃ q',St w' B gN gU q' ∧ q'.cf = M.act q.cf k x way ∧ Below B w w':=by
  go_enter Try.func107,Try.ntmps107
  go_wp2_with fail
  refine (yT B gN gU k q x way th w hst hu hkl hth hs0 hlen16 h8 nx hnx).mono ?_
  rintro e w1 ⟨rfl,hst1,hu1,hb1⟩
  have hw1s:=hb1.size
  have hth1 : (q.put k (tvGo th nx)).tvs[k]? = some (tvGo th nx):=by
    show (q.tvs.set k (tvGo th nx))[k]? = _
    rw [List.getElem?_set,if_pos rfl,if_pos (List.getElem?_eq_some_iff.1 hth).1]
  have hcf1 : M.th q.cf k = tvT th:=Pc.th_of hth
  have HCf:=kp (Pc.put_cf q k (tvGo th nx))
  have HCf0:=kp hcf1
  have hs01 : 0 < (tvGo th nx).sv.len:=hs0
  have hlen161 : (tvGo th nx).sv.len ≤ 1000:=hlen16
  have hkl1 : k < (q.put k (tvGo th nx)).len:=hkl
  have h81 : (q.put k (tvGo th nx)).len ≤ 8:=h8
  have how1 : (q.put k (tvGo th nx)).ow = q.ow:=rfl
  have HQlen : Kept ((q.put k (tvGo th nx)).len = q.len):=kp rfl
  have HTvs : Kept ((q.put k (tvGo th nx)).tvs = q.tvs.set k (tvGo th nx)):=kp rfl
  have HTh1 : Kept (tvT (tvGo th nx) = ⟨M.goOn th.sv.stack nx,th.slots⟩):=kp rfl
  obtain ⟨q1,hq1⟩ : ∃ q1,q.put k (tvGo th nx) = q1:=⟨_,rfl⟩
  obtain ⟨th1,ht1⟩ : ∃ th1,tvGo th nx = th1:=⟨_,rfl⟩
  rw [ht1] at hq1 hth1 hs01 hlen161 HCf HTh1 HTvs hst1 hkl1 h81 how1 HQlen
  rw [hq1] at hst1 hth1 hkl1 h81 how1 HCf HQlen HTvs
  clear hst hu hq1 ht1 hcf1 hs0 hlen16
  obtain ⟨gT,curT,thx,hA,hbT,hthx,hcT0,hcTj,hTN,hTU,hBT,hsl,hthc,hcTl⟩:=hst1.thread hkl1
  rw [hth1] at hthx
  cases hthx
  obtain ⟨gS,cur,hSA,hbS,hlen,hSN,hSU,hBS,hput⟩:=hst1.goes hth1 hs01
  have hbound:=hst1.ok
  have hqc:=hbound.lc;have hqm:=hbound.cm
  unfold maxLen at hqm
  have HE : Kept (pcC q1 = .slice (some ⟨gT,0,none⟩) q1.len q1.cap :: q1.ow.map natV):=kp (by unfold pcC;rw [hA])
  have hgN:=hst1.conf.lt;have hgU:=hu1.lt;have hgT:=hbT.lt;have hgS:=hbS.lt
  have HSt:=kp hst1;have HK:=kp hu1;have HT:=kp hbT;have HS:=kp hbS;have HPut:=kp hput
  have hxc:=hbound.svs th1 (List.mem_of_getElem? hth1)
  have hxc2:=hxc.lc;have hxm:=hxc.cm
  unfold maxLen at hxm
  rw [hSA] at hcT0
  have HC0:=kp hcT0
  have hlow:=hst1.low.1
  have hBw : B ≤ w1.heap.size:=by omega
  have HLow:=kp hst1.low
  obtain ⟨n,hn⟩ : ∃ n,th1.sv.len = n:=⟨_,rfl⟩
  obtain ⟨cp,hcp⟩ : ∃ cp,th1.sv.cap = cp:=⟨_,rfl⟩
  have HThl:=kp hn
  rw [hn] at HC0 hs01 hlen161 hxc2 hlen HPut
  rw [hcp] at HC0 hxc2 hxm
  have HL17 : Kept ((pcC q1).length = 17):=kp (by show (_ :: q1.ow.map natV).length = 17;simp [how1,how])
  have HGoal : Kept ((q1.own a (k + 1)).cf = M.act q.cf k x way):=kp (by
    have e : (q1.own a (k + 1)).cf = ⟨q1.cf.ths,q1.ow.set a (k + 1)⟩:=rfl
    unfold M.act
    rw [e,HCf.out,how1,HCf0.out,if_neg (show ¬ x.kind = 9 by omega),if_pos hk3,hnx,ha,Int.toNat_natCast,Int.toNat_natCast,HTh1.out]
    rfl)
  clear hst1 hu1 hth1 hput hbT hbS hcT0 hcTj hthc hcTl hsl hbound hxc hn hcp hSA hA
  go_wp2
  apply jH 18 (.is _ :: .is _ :: .is _ :: .is _ :: .is _ :: .is _ :: .is _ :: .is _ :: .is _ :: .is _ :: .is _ :: .is _ :: .is _ :: .is _ :: .is _ :: .is _ :: .is _ :: .is _ :: [])
    [[],[(0,4)],[(1,5)],[(2,6)],[],[(4,8)],[(5,9)],[(6,10)],[(7,11)],[],[(9,13)],[(10,14)],[(11,15)],[(12,16)],[(13,17)],[(3,7)],[(15,19)],[(16,20),(8,12)],[(17,21),(14,18)]]
    [(0,4),(1,5),(2,6),(3,7),(4,8),(5,9),(6,10),(7,11),(8,12),(9,13),(10,14),(11,15),(12,16),(13,17),(14,18),(15,19),(16,20),(17,21)] (by kernel_rfl) (by kernel_rfl) (by kernel_rfl) (by kernel_rfl) (by kernel_rfl)
  case hob =>
    refine ⟨?o0,?o1,?o2,?o3,?o4,?o5,?o6,?o7,?o8,?o9,?o10,?o11,?o12,?o13,?o14,?o15,?o16,?o17,trivial⟩
    case o0 => intro W hW;change wpList _ _ _ _ _ _;go_wp2;exact j0 rfl rfl rfl
    case o1 => intro W hW;rintro _ rfl;change wpList _ _ _ _ _ _;go_wp2;exact j0 rfl rfl rfl
    case o2 => intro W hW;rintro _ rfl;change wpList _ _ _ _ _ _;go_wp2;exact j0 rfl rfl rfl
    case o3 =>
      intro W hW;rintro _ rfl;change wpList _ _ _ _ _ _
      have hc:=(HK.out.below hW hgU).cell 0
      simp only [turnC,List.getElem?_cons_zero] at hc
      go_wp2;exact j0 rfl rfl rfl
    case o4 => intro W hW;change wpList _ _ _ _ _ _;go_wp2;exact j0 rfl rfl rfl
    case o5 => intro W hW;rintro _ rfl;change wpList _ _ _ _ _ _;go_wp2;exact j0 rfl rfl rfl
    case o6 => intro W hW;rintro _ rfl;change wpList _ _ _ _ _ _;go_wp2;exact j0 rfl rfl rfl
    case o7 => intro W hW;rintro _ rfl;change wpList _ _ _ _ _ _;go_wp2;exact j0 rfl rfl rfl
    case o8 =>
      intro W hW;rintro _ rfl;change wpList _ _ _ _ _ _
      have hc:=(HK.out.below hW hgU).cell 4
      simp only [turnC,List.getElem?_cons_zero,List.getElem?_cons_succ] at hc
      rw [ha] at hc
      go_wp2;exact j0 rfl rfl rfl
    case o9 => intro W hW;change wpList _ _ _ _ _ _;go_wp2;exact j0 rfl rfl rfl
    case o10 => intro W hW;rintro _ rfl;change wpList _ _ _ _ _ _;go_wp2;exact j0 rfl rfl rfl
    case o11 => intro W hW;rintro _ rfl;change wpList _ _ _ _ _ _;go_wp2;exact j0 rfl rfl rfl
    case o12 => intro W hW;rintro _ rfl;change wpList _ _ _ _ _ _;go_wp2;exact j0 rfl rfl rfl
    case o13 =>
      intro W hW;rintro _ rfl;change wpList _ _ _ _ _ _
      have hc:=(HK.out.below hW hgU).cell 1
      simp only [turnC,List.getElem?_cons_zero,List.getElem?_cons_succ] at hc
      go_wp2;exact j0 rfl rfl rfl
    case o14 =>
      intro W hW;rintro _ rfl;change wpList _ _ _ _ _ _
      go_wp2_with fail
      refine (LV k (by omega) W).mono ?_
      rintro e w2 ⟨rfl,rfl⟩
      go_wp2
      exact j0 rfl rfl rfl
    case o15 => intro W hW;rintro _ rfl;change wpList _ _ _ _ _ _;go_wp2;exact j0 rfl rfl rfl
    case o16 => intro W hW;rintro _ rfl;change wpList _ _ _ _ _ _;go_wp2;exact j0 rfl rfl rfl
    case o17 => intro W hW;rintro _ rfl;rintro _ rfl;change wpList _ _ _ _ _ _;go_wp2;exact j0 rfl rfl rfl
  case hend =>
    intro W hW;rintro _ rfl;rintro _ rfl;rintro _ rfl;rintro _ rfl;rintro _ rfl;rintro _ rfl;rintro _ rfl;rintro _ rfl;rintro _ rfl;rintro _ rfl;rintro _ rfl;rintro _ rfl;rintro _ rfl;rintro _ rfl;rintro _ rfl;rintro _ rfl;rintro _ rfl;rintro _ rfl
    simp only [given,jJ,List.set,List.drop]
    have HKw:=kp (HSt.out.conf.below hW hgN)
    have HStw:=kp (HSt.out.below hW (Nat.le_refl _))
    have HBw:=kp (hb1.trans (hW.mono hBw))
    have hWs:=hW.size
    clear hW
    go_wp2_with (first
      | ((with_reducible show Sn);go_must (refine j9 rfl 3 (.tmp 21) (.tmp 18) rfl gN (1 + a) (.int .i64 ((k + 1 : Nat) : Int)) rfl rfl rfl rfl _ _ HKw.out (by rw [HL17.out];omega) lS ?_);intro w5 hk5 hg5 hs5;have HFin:=kp (HStw.out.owns hk5 hg5 hs5);have HB5:=kp (HBw.out.grown hg5 (by omega) (fun k e => by cases e;exact hlow));clear hk5 hg5))
    go_end0
    exact ⟨rfl,_,HFin.out,HGoal.out,HB5.out⟩
set_option maxRecDepth 100000 in
set_option maxHeartbeats 1600000 in
theorem sem_unlock (B gN gU k : Nat) (q : Pc) (x : Nd) (way : Bool) (th : Tv) (w : World) (hst : St w B gN gU q) (hu : Blk w gU 185 (turnC gN k way x)) (hkl : k < q.len) (hth : q.tvs[k]? = some th) (hs0 : 0 < th.sv.len) (hlen16 : th.sv.len ≤ 1000) (h8 : q.len ≤ 8) (nx : Nat) (hnx : x.next = (nx : Int)) (a : Nat) (ha : x.arg = (a : Int)) (ha16 : a < 16) (how : q.ow.length = 16) (hk4 : x.kind = 4) :
    Calls Try.prog 108 #[.pointer (some ⟨gU,0,none⟩)] w fun e w' => e = .returned (.tuple #[]) ∧ ∃ q',St w' B gN gU q' ∧ q'.cf = M.act q.cf k x way ∧ Below B w w':=by
  go_enter Try.func108,Try.ntmps108
  go_wp2_with fail
  refine (yT B gN gU k q x way th w hst hu hkl hth hs0 hlen16 h8 nx hnx).mono ?_
  rintro e w1 ⟨rfl,hst1,hu1,hb1⟩
  have hw1s:=hb1.size
  have hth1 : (q.put k (tvGo th nx)).tvs[k]? = some (tvGo th nx):=by
    show (q.tvs.set k (tvGo th nx))[k]? = _
    rw [List.getElem?_set,if_pos rfl,if_pos (List.getElem?_eq_some_iff.1 hth).1]
  have hcf1 : M.th q.cf k = tvT th:=Pc.th_of hth
  have HCf:=kp (Pc.put_cf q k (tvGo th nx))
  have HCf0:=kp hcf1
  have hs01 : 0 < (tvGo th nx).sv.len:=hs0
  have hlen161 : (tvGo th nx).sv.len ≤ 1000:=hlen16
  have hkl1 : k < (q.put k (tvGo th nx)).len:=hkl
  have h81 : (q.put k (tvGo th nx)).len ≤ 8:=h8
  have how1 : (q.put k (tvGo th nx)).ow = q.ow:=rfl
  have HQlen : Kept ((q.put k (tvGo th nx)).len = q.len):=kp rfl
  have HTvs : Kept ((q.put k (tvGo th nx)).tvs = q.tvs.set k (tvGo th nx)):=kp rfl
  have HTh1 : Kept (tvT (tvGo th nx) = ⟨M.goOn th.sv.stack nx,th.slots⟩):=kp rfl
  obtain ⟨q1,hq1⟩ : ∃ q1,q.put k (tvGo th nx) = q1:=⟨_,rfl⟩
  obtain ⟨th1,ht1⟩ : ∃ th1,tvGo th nx = th1:=⟨_,rfl⟩
  rw [ht1] at hq1 hth1 hs01 hlen161 HCf HTh1 HTvs hst1 hkl1 h81 how1 HQlen
  rw [hq1] at hst1 hth1 hkl1 h81 how1 HCf HQlen HTvs
  clear hst hu hq1 ht1 hcf1 hs0 hlen16
  obtain ⟨gT,curT,thx,hA,hbT,hthx,hcT0,hcTj,hTN,hTU,hBT,hsl,hthc,hcTl⟩:=hst1.thread hkl1
  rw [hth1] at hthx
  cases hthx
  obtain ⟨gS,cur,hSA,hbS,hlen,hSN,hSU,hBS,hput⟩:=hst1.goes hth1 hs01
  have hbound:=hst1.ok
  have hqc:=hbound.lc;have hqm:=hbound.cm
  unfold maxLen at hqm
  have HE : Kept (pcC q1 = .slice (some ⟨gT,0,none⟩) q1.len q1.cap :: q1.ow.map natV):=kp (by unfold pcC;rw [hA])
  have hgN:=hst1.conf.lt;have hgU:=hu1.lt;have hgT:=hbT.lt;have hgS:=hbS.lt
  have HSt:=kp hst1;have HK:=kp hu1;have HT:=kp hbT;have HS:=kp hbS;have HPut:=kp hput
  have hxc:=hbound.svs th1 (List.mem_of_getElem? hth1)
  have hxc2:=hxc.lc;have hxm:=hxc.cm
  unfold maxLen at hxm
  rw [hSA] at hcT0
  have HC0:=kp hcT0
  have hlow:=hst1.low.1
  have hBw : B ≤ w1.heap.size:=by omega
  have HLow:=kp hst1.low
  obtain ⟨n,hn⟩ : ∃ n,th1.sv.len = n:=⟨_,rfl⟩
  obtain ⟨cp,hcp⟩ : ∃ cp,th1.sv.cap = cp:=⟨_,rfl⟩
  have HThl:=kp hn
  rw [hn] at HC0 hs01 hlen161 hxc2 hlen HPut
  rw [hcp] at HC0 hxc2 hxm
  have HL17 : Kept ((pcC q1).length = 17):=kp (by show (_ :: q1.ow.map natV).length = 17;simp [how1,how])
  have hc16 : (pcC q1)[1 + a]? = some (.int .i64 (q1.ow.getD a 0 : Int)):=by
    rw [HE.out,show 1 + a = a + 1 by omega,List.getElem?_cons_succ];exact QE (by rw [how1];exact how) ha16
  have hu0:=HK.out.cell 0;have hu1':=HK.out.cell 1;have hu4:=HK.out.cell 4
  simp only [turnC,List.getElem?_cons_zero,List.getElem?_cons_succ] at hu0 hu1' hu4
  rw [ha] at hu4
  have hco:=(HSt.out.conf.cell (1 + a)).trans hc16
  obtain ⟨o,ho⟩ : ∃ o,q1.ow.getD a 0 = o:=⟨_,rfl⟩
  rw [ho] at hco
  have HMk:=kp (LV k (by omega))
  have HAct : Kept (M.act q.cf k x way = ⟨q1.cf.ths,if o = k + 1 then q1.ow.set a 0 else q1.ow⟩):=kp (by
    unfold M.act
    rw [HCf.out,how1,HCf0.out,if_neg (show ¬ x.kind = 9 by omega),if_neg (show ¬ x.kind = 3 by omega),if_pos hk4,hnx,ha,Int.toNat_natCast,Int.toNat_natCast,HTh1.out,← ho,how1]
    rfl)
  have HB1:=kp hb1
  clear hst1 hu1 hth1 hput hbT hbS hcT0 hcTj hthc hcTl hsl hbound hxc hn hcp hSA hA hc16 ho hnx ha hb1
  by_cases hok : o = k + 1
  · have HGoal : Kept ((q1.own a 0).cf = M.act q.cf k x way):=kp (by rw [HAct.out,if_pos hok];rfl)
    have hoe : ((o : Int) == ((k + 1 : Nat) : Int)) = true:=by rw [beq_iff_eq];omega
    clear hok
    go_wp2
    go_quiet (fail)
    obtain ⟨w2,hw2⟩ : ∃ y,w1.drewN nq = y:=⟨_,rfl⟩
    have HSt2 : Kept (St w2 B gN gU q1):=kp (by rw [← hw2];exact HSt.out.drewN nq)
    have HB2 : Kept (Below B w w2):=kp (by rw [← hw2];exact below_drewN HB1.out nq)
    have hW2 : w1.heap.size ≤ w2.heap.size:=by rw [← hw2];exact Nat.le_refl _
    replace hu1' : w2.cell? ⟨gU,1,none⟩ = some (.int .i64 (k : Int)):=by rw [← hw2];exact hu1'
    replace hco : w2.cell? ⟨gN,1 + a,none⟩ = some (.int .i64 (o : Int)):=by rw [← hw2];exact hco
    rw [hw2]
    clear hw2
    go_wp2
    go_quiet ((go_at_call 116;exact x7 (HMk.out _)))
    obtain ⟨w3,hw3⟩ : ∃ y,w2.drewN nq = y:=⟨_,rfl⟩
    have HKw : Kept (Blk w3 gN 91 (pcC q1)):=kp (by rw [← hw3];exact HSt2.out.conf.drewN nq)
    have HStw : Kept (St w3 B gN gU q1):=kp (by rw [← hw3];exact HSt2.out.drewN nq)
    have HBw : Kept (Below B w w3):=kp (by rw [← hw3];exact below_drewN HB2.out nq)
    have hWs : w1.heap.size ≤ w3.heap.size:=by rw [← hw3];exact hW2
    rw [hw3]
    clear hw3 hu0 hu1' hu4 hco
    go_wp2_with (first
      | ((with_reducible show Sn);go_must (refine j9 rfl 3 (.tmp 28) _ rfl gN (1 + a) (.int .i64 ((0 : Nat) : Int)) rfl rfl rfl rfl _ _ HKw.out (by rw [HL17.out];omega) lS ?_);intro w5 hk5 hg5 hs5;have HFin:=kp (HStw.out.owns hk5 hg5 hs5);have HB5:=kp (HBw.out.grown hg5 (by omega) (fun k e => by cases e;exact hlow));clear hk5 hg5))
    go_end0
    exact ⟨rfl,_,HFin.out,HGoal.out,HB5.out⟩
  · have HGoal : Kept (q1.cf = M.act q.cf k x way):=kp (by rw [HAct.out,if_neg hok];rfl)
    have hoe : ((o : Int) == ((k + 1 : Nat) : Int)) = false:=by rw [beq_eq_false_iff_ne];omega
    clear hok
    go_wp2
    go_quiet (fail)
    obtain ⟨w2,hw2⟩ : ∃ y,w1.drewN nq = y:=⟨_,rfl⟩
    have HSt2 : Kept (St w2 B gN gU q1):=kp (by rw [← hw2];exact HSt.out.drewN nq)
    have HB2 : Kept (Below B w w2):=kp (by rw [← hw2];exact below_drewN HB1.out nq)
    have hW2 : w1.heap.size ≤ w2.heap.size:=by rw [← hw2];exact Nat.le_refl _
    replace hu1' : w2.cell? ⟨gU,1,none⟩ = some (.int .i64 (k : Int)):=by rw [← hw2];exact hu1'
    replace hco : w2.cell? ⟨gN,1 + a,none⟩ = some (.int .i64 (o : Int)):=by rw [← hw2];exact hco
    rw [hw2]
    clear hw2
    go_wp2
    go_quiet ((go_at_call 116;exact x7 (HMk.out _)))
    go_wp2
    go_end0
    exact ⟨rfl,_,HSt2.out.drewN nq,HGoal.out,below_drewN HB2.out nq⟩
end Go.Proofs.Ytcbfghcdbmlneaa
