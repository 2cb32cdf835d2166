/- Iter, ScriptP2, ScriptP3, RaceCopy, ScriptP4, ScriptTwin, ScriptP5. -/
import Derived.RangeFuncLeaves
import Derived.RangeFuncCalls
import Derived.RangeFuncRecord
import Derived.OwnWalkIn
import Derived.TacticsInMore
import Derived.LoopIn
import Derived.Shelf.Abstract
import Derived.Test.YtnaomfmmkhgbhaaPk1
import Derived.Test.YtnaomfmmkhgbhaaPk17
import Derived.Test.YtnaomfmmkhgbhaaPk5
import Derived.Test.YtnaomfmmkhgbhaaPk7
import Derived.Test.YtnaomfmmkhgbhaaPk6
import Derived.Test.YtnaomfmmkhgbhaaPk14
import Derived.Test.YtnaomfmmkhgbhaaPk10
import Derived.Test.YtnaomfmmkhgbhaaPk8
import Derived.Test.YtnaomfmmkhgbhaaPk3
namespace Go.Proofs.Ytnaomfmmkhgbhaa
open Go.RowKit
abbrev wf (r : Option Nat) : Fence:={ Fence.wide with round:=r }
def noDefer (o : Oper) : Bool:=match o.op with | .defer _ => false | _ => true
theorem noDefer_op {o : Oper} (h : noDefer o = true) : ∀ c,o.op ≠ .defer c:=by
  intro c e
  unfold noDefer at h
  rw [e] at h
  cases h
section
variable {P : Program} {r : Option Nat} {n : Nat} {ops : Array Oper} {Q Q' : Exit → Act → World → Prop} {a : Act} {w : World} {o : Oper} {rest : List Oper}
theorem LJ {f : FuncId} {args : Array Value} {R : Ending → World → Prop} (h : Calls P f args w R) : CallsIn (wf r) n P f args w R:=(callsIn_wide (n:=n)).2 h
theorem rowsIn_wf {row : String} {args : Array Value} {R : Value → World → Prop} (h : Rows P row args w R) : RowsIn (wf r) n P row args w R :=
  fun c cs _ => let ⟨v,w',q,s⟩:=h c cs;⟨v,w',q,stepsIn_wide.2 s⟩
theorem vY {p : Prop} (h : (wf r).depth.isSome = true) : p:=by simp [Fence.wide] at h
theorem JY {next next' : Act → World → Prop} (hd : noDefer o = true) (hn : ∀ a w,next a w → next' a w) (hp : ∀ ch a w,Q (.panic ch) a w → Q' (.panic ch) a w) (hQ : ¬ LetsOut Q) (h : o.wp P a w next Q) : o.wpIn (wf r) n P a w next' Q':=by
  refine ⟨fun _ _ => trivial,?_⟩
  rw [Oper.semAt_eq _ _ _ (noDefer_op hd)]
  unfold Oper.wp at h
  generalize (execOp a.eval o).run P w = res at h ⊢
  cases res with
  | ok v w' =>
    cases v with
    | value v => exact hn _ _ h
    | skip => exact hn _ _ h
    | defer d => exact hn _ _ h
    | enter f args =>
      rw [Oper.upon_enter] at h
      rw [Oper.uponIn_enter]
      refine ⟨vY,LJ (Calls.mono h fun e w'' he => ?_)⟩
      cases e with
      | returned v => exact hn _ _ he
      | panicked ch => exact hp _ _ _ he
      | outgrown => exact absurd he hQ
    | row row args =>
      rw [Oper.upon_row] at h
      rw [Oper.uponIn_row]
      exact ⟨vY,rowsIn_wf (Rows.mono h fun v w'' he => hn _ _ he)⟩
    | _ => exact h.elim
  | halt s w' =>
    cases s <;> first | exact hp _ _ _ h | exact h.elim
theorem xO (hQ : ¬ LetsOut Q) : ∀ (l : List Oper) (a : Act) (w : World),(∀ o ∈ l,noDefer o = true) → wpList P ops Q l a w → wpListIn (wf r) n P ops Q l a w
  | [],_,_,_,h => h
  | o :: l,a,w,hd,h => by
    unfold wpList at h
    unfold wpListIn
    by_cases hw : Region.wanted o (yielded ops a.tmps) = true
    · rw [if_pos hw] at h ⊢
      rcases h with h | h
      · exact JY (hd o (by simp)) (fun a w h => xO hQ l a w (fun o ho => hd o (by simp [ho])) h) (fun _ _ _ h => h) hQ h
      · exact absurd h.2 hQ
    · rw [if_neg hw] at h ⊢
      exact ⟨fun _ _ => trivial,xO hQ l _ _ (fun o ho => hd o (by simp [ho])) h⟩
theorem qN {id : Nat} {l : List Oper} (hd : l.all noDefer = true) (hQ : ¬ LetsOut Q) (h : wpList P l.toArray Q l a w) : (Code.region id l.toArray false).wpIn (wf r) n P Q a w :=
  wpIn_region_lit (xO hQ l a w (fun o ho => (List.all_eq_true.1 hd) o ho) h)
theorem qV (hQ : ¬ LetsOut Q) : ∀ (pre : List Oper) (a : Act) (w : World),(∀ o ∈ pre,noDefer o = true) → wpList P ops (Exit.then (fun a w => wpListIn (wf r) n P ops Q rest a w) Q) pre a w → wpListIn (wf r) n P ops Q (pre ++ rest) a w
  | [],_,_,_,h => h
  | o :: l,a,w,hd,h => by
    unfold wpList at h
    show wpListIn (wf r) n P ops Q (o :: (l ++ rest)) a w
    unfold wpListIn
    by_cases hw : Region.wanted o (yielded ops a.tmps) = true
    · rw [if_pos hw] at h ⊢
      rcases h with h | h
      · exact JY (hd o (by simp)) (fun a w h => qV hQ l a w (fun o ho => hd o (by simp [ho])) h) (fun _ _ _ h => h) hQ h
      · exact absurd h.2 hQ
    · rw [if_neg hw] at h ⊢
      exact ⟨fun _ _ => trivial,qV hQ l _ _ (fun o ho => hd o (by simp [ho])) h⟩
def LK (P : Program) (y : Value) (args : Array Value) (W : World) (R : Ending → World → Prop) : Prop :=
  ∃ d nx,(Deferred.ofValue y args).run P W = .ok d W ∧ (invoke d.target d.args).run P W = .ok nx W ∧
    match nx with
    | .enter f xs => CallsIn Fence.wide 0 P f xs W R
    | .round l f tmps assign body => RoundIn Fence.wide 0 P l f tmps assign body W R
    | _ => False
theorem LK.mono {y : Value} {args : Array Value} {W : World} {R R' : Ending → World → Prop} (h : LK P y args W R) (hr : ∀ e w,R e w → R' e w) : LK P y args W R':=by
  obtain ⟨d,nx,h1,h2,h3⟩:=h
  refine ⟨d,nx,h1,h2,?_⟩
  cases nx with
  | enter f xs => exact callsIn_wide.2 (Calls.mono (callsIn_wide.1 h3) hr)
  | round l f tmps assign body => exact RoundIn.mono h3 hr
  | _ => exact h3.elim
theorem vZ {y : Value} {vs : List Value} {R : Ending → World → Prop} (x : Operand) (xs : List Operand) (ts : Array TypeId) (hg : o.guard = none) (ho : o.op = .call { callee:=.value x,args:=xs.toArray,argTypes:=ts })
    (hx : a.eval x = y) (hxs0 : xs.map a.eval = vs) (h : LK P y vs.toArray w R) (hR : ∀ e w',R e w' → ∃ v,e = .returned v ∧ wpListIn (wf r) 1 P ops Q rest (a.put o.dst v) w') : wpListIn (wf r) 1 P ops Q (o :: rest) a w:=by
  refine wpListIn_plain hg fun K hK => ?_
  have hxs : xs.toArray.map a.eval = vs.toArray:=by rw [← hxs0];simp
  obtain ⟨d,nx,h1,h2,h3⟩:=h
  refine ⟨fun _ _ => trivial,?_⟩
  rw [Oper.semAt_eq _ _ _ (by intro c e;rw [ho] at e;cases e)]
  have hrun : (execOp a.eval o).run P w = .ok nx w:=by
    unfold execOp
    simp only [ho,resolve,hx,hxs,Sem.run_bind,h1,Result.andThen_ok,h2]
  rw [hrun]
  cases nx with
  | enter f xs =>
    rw [Oper.uponIn_enter]
    refine ⟨vY,?_⟩
    show CallsIn (wf r) 0 P f xs w _
    exact LJ (Calls.mono (callsIn_wide.1 h3) fun e w' he => by
      obtain ⟨v,rfl,hk⟩:=hR e w' he
      exact hK _ _ hk)
  | round l f tmps assign body =>
    rw [Oper.uponIn_round]
    refine ⟨vY,?_⟩
    show RoundIn (wf r) 0 P l f tmps assign body w _
    exact RoundIn.mono h3 fun e w' he => by
      obtain ⟨v,rfl,hk⟩:=hR e w' he
      exact hK _ _ hk
  | _ => exact h3.elim
theorem XZ {l : Nat} {rec : Loop} {args : Array Value} {R : Ending → World → Prop} (hl : w.heap[l]? = some (.loop rec)) (hs : args.size = rec.params.size) (hst : rec.state = .ready)
    (h : rec.assign.wpIn (wf (some l)) 0 P (Exit.then (fun a1 w1 => w1.heap[l]? = some (.loop rec) ∧ rec.body.wpIn (wf (some l)) 0 P (roundPost P l R) a1 (w1.putObj l (.loop { rec with state:=.busy }))) (fun _ _ _ => False))
      { tmps:=(rec.params.zip args).foldl (fun t (p,v) => t.setIfInBounds p v) rec.tmps,defers:=[] } w) : LK P (.func (.yield l) #[] #[]) args w R:=by
  refine ⟨{ target:=.fn (.yield l) #[],args:=args },.round l rec.fn ((rec.params.zip args).foldl (fun t (p,v) => t.setIfInBounds p v) rec.tmps) rec.assign rec.body,?_,?_,?_⟩
  · simp [Deferred.ofValue]
  · exact run_yield hl hs
  · refine roundIn_of_wpIn trivial (wpIn_mono h ?_)
    rintro e a1 w1 hq
    cases e with
    | normal => exact ⟨_,run_beginRound hq.1 hst,hq.2⟩
    | _ => exact hq.elim
theorem xH {g : Operand} {ps : Array Tmp} {assign body : Code} {gf : FuncId} {lb : Array Value} (hg : a.eval g = .func (.func gf) #[] lb) (eg : ∀ xs W,(callFunc gf xs).run P W = .ok (.enter gf xs) W)
    (h : ∀ (rec : Loop),rec.state = .ready → rec.pending = none → rec.tmps = a.tmps → rec.params = ps → rec.assign = assign → rec.body = body → ∀ W1,W1 = (w.alloc (.deferred (some []))).alloc (.loop rec) →
      Calls P gf (#[.func (.yield (w.heap.size + 1)) #[] #[]] ++ lb) W1 fun e w3 => (∃ v,e = .returned v) ∧ ∃ rec' : Loop,w3.heap[w.heap.size + 1]? = some (.loop rec') ∧ rec'.state ≠ .busy ∧
        (match rec'.pending with
         | none => Q .normal { a with defers:={ target:=.collected w.heap.size,args:=#[] } :: a.defers } (w3.putObj (w.heap.size + 1) (.loop { rec' with state:=.exhausted }))
         | some c => c.wp P Q { a with defers:={ target:=.collected w.heap.size,args:=#[] } :: a.defers } (w3.putObj (w.heap.size + 1) (.loop { rec' with state:=.exhausted })))) :
    (Code.rangeFunc g ps assign body).wp P Q a w:=by
  refine (wpIn_wide (n:=1)).1 (wpIn_rangeFunc fun fn _ => ?_)
  obtain ⟨rec,hrec⟩ : ∃ rec : Loop,rec = { state:=.ready,pending:=none,fn,tmps:=a.tmps,params:=ps,assign,body,defers:=w.heap.size }:=⟨_,rfl⟩
  obtain ⟨W1,hW1⟩ : ∃ W1,W1 = (w.alloc (.deferred (some []))).alloc (.loop rec):=⟨_,rfl⟩
  refine ⟨w.heap.size + 1,[{ target:=.collected w.heap.size,args:=#[] }],W1,{ target:=.fn (.func gf) lb,args:=#[.func (.yield (w.heap.size + 1)) #[] #[]] },W1,gf,
    #[.func (.yield (w.heap.size + 1)) #[] #[]] ++ lb,W1,?_,?_,fun _ _ => trivial,?_,fun _ => Nat.le_refl _,?_⟩
  · rw [hW1,hrec];exact run_enterLoop_outer _ _ _ _ _
  · simp only [resolve,hg]
    simp [go_sem]
  · simp [invoke,eg]
  · refine callsIn_wide.2 (Calls.mono (h rec (by rw [hrec]) (by rw [hrec]) (by rw [hrec]) (by rw [hrec]) (by rw [hrec]) (by rw [hrec]) W1 hW1) ?_)
    rintro e w3 ⟨⟨v,rfl⟩,rec',hl,hb,hq⟩
    refine ⟨rec'.pending,_,run_endLoop hl hb,?_⟩
    cases hp : rec'.pending with
    | none => rw [hp] at hq;exact hq
    | some c => rw [hp] at hq;exact wpIn_wide.2 hq
theorem foldl_zip (ps : List Tmp) (vs : List Value) (tm : Array Value) : (ps.toArray.zip vs.toArray).foldl (fun t (p,v) => t.setIfInBounds p v) tm = (ps.zip vs).foldl (fun t (p,v) => t.setIfInBounds p v) tm:=by simp
theorem QT {l : Nat} {rec : Loop} {vs : List Value} {R : Ending → World → Prop} {assign body : Code} {ps : List Tmp} {tm : Array Value} (hl : w.heap[l]? = some (.loop rec)) (hst : rec.state = .ready) (htm : rec.tmps = tm) (hps : rec.params = ps.toArray) (has : rec.assign = assign) (hbo : rec.body = body) (hs : vs.length = ps.length)
    (h : assign.wpIn (wf (some l)) 0 P (Exit.then (fun a1 w1 => w1.heap[l]? = some (.loop rec) ∧ body.wpIn (wf (some l)) 0 P (roundPost P l R) a1 (w1.putObj l (.loop { rec with state:=.busy }))) (fun _ _ _ => False))
      { tmps:=(ps.zip vs).foldl (fun t (p,v) => t.setIfInBounds p v) tm,defers:=[] } w) : LK P (.func (.yield l) #[] #[]) vs.toArray w R:=by
  subst has hbo
  refine XZ hl (by rw [hps];simpa using hs) hst ?_
  have e : (rec.params.zip vs.toArray).foldl (fun t (p,v) => t.setIfInBounds p v) rec.tmps = (ps.zip vs).foldl (fun t (p,v) => t.setIfInBounds p v) tm:=by rw [hps,htm,foldl_zip]
  rw [e]
  exact h
theorem uV {W1 : World} {rec : Loop} (h : W1 = (w.alloc (.deferred (some []))).alloc (.loop rec)) : W1.heap[w.heap.size + 1]? = some (.loop rec) ∧ W1.heap[w.heap.size]? = some (.deferred (some [])) ∧ Below w.heap.size w W1 ∧ W1.heap.size = w.heap.size + 2:=by
  subst h
  refine ⟨?_,?_,?_,by simp⟩
  · have:=World.alloc_heap_new (w.alloc (.deferred (some []))) (.loop rec)
    rwa [World.size_alloc] at this
  · exact (Below.heap_alloc _ _ _ (by simp)).trans (World.alloc_heap_new w _)
  · exact ((Below.refl _ w).alloc (Nat.le_refl _) _).alloc (by simp) _
theorem Blk.put {W : World} {g l : Nat} {t : TypeId} {cs : List Value} (h : Blk W g t cs) (o : Obj) (hne : g ≠ l) : Blk (W.putObj l o) g t cs:=h.grown (grownBy_putObj' W l o) (fun e => hne (by cases e;rfl))
theorem rec_on {rec : Loop} (h1 : rec.state = .ready) (h2 : rec.pending = none) : ({ { rec with state:=.busy } with state:=if (none : Option Code).isNone then .ready else .done,pending:=none } : Loop) = rec:=by
  cases rec
  simp only at h1 h2
  subst h1 h2
  rfl
theorem xV {m : Nat} {fn : Func} {R : Ending → World → Prop} {D : Nat} {v : Value} (hd : a.defers = [{ target:=.collected D,args:=#[] }]) (hD : w.heap[D]? = some (.deferred (some [])))
    (hr : (results fn a.tmps).run P (w.putObj D (.deferred none)) = .ok v (w.putObj D (.deferred none))) (h : R (.returned v) (w.putObj D (.deferred none))) : bodyPostM Fence.wide m P fn R .ret a w ∧ bodyPostM Fence.wide m P fn R .normal a w:=by
  have key : LeavesInM Fence.wide m P fn a.tmps R a.defers .returning w:=by
    rw [hd]
    exact ⟨by simp,.inl ⟨D,_,rfl,run_takeDeferred hD,v,hr,h⟩⟩
  exact ⟨key,key⟩
theorem LI {f : FuncId} {fn : Func} {c : Code} {args : Array Value} {R : Ending → World → Prop} (hf : P.funcs[f]? = some fn) (hb : fn.body = some c)
    (h : c.wp P (bodyPostM Fence.wide 1 P fn R) { tmps:=args ++ Array.replicate (fn.ntmps - args.size) undef,defers:=[] } w) : Calls P f args w R :=
  (callsIn_wide (n:=1)).1 (callsIn_of_wp_marks hf hb trivial (wpIn_wide.2 h))
end
theorem LU : (Try.prog.info? 51).map (·.size) = some 2:=by kernel_rfl
theorem pick_info : (Try.prog.info? 51).map (fun i => (i.zero,i.size,i.bytes)) = some (some (.agg #[.int .i64 0,.bool false]),2,16):=by kernel_rfl
theorem Blk.recs {α : Type} {sz : Nat} {f : α → Nat → Value} {w : World} {g n B : Nat} {t : TypeId} {l : List α} (h : Blk w g t (cellsR sz f l)) (hn : l.length = n) (hB : w.heap.size ≤ B) : Recs sz f w B (some ⟨g,0,none⟩) n l :=
  ⟨hn,fun _ => ⟨_,rfl,Nat.lt_of_lt_of_le h.lt hB,fun k x hx j hj => by
    have hadd : (⟨g,0,none⟩ : Addr).add (k * sz + j) = ⟨g,k * sz + j,none⟩:=by unfold Addr.add;split <;> simp_all
    rw [hadd,h.cell,lE sz f l k j x hx hj]⟩⟩
theorem Blk.picks {w : World} {g n B : Nat} {t : TypeId} {l : List (Int × Bool)} (h : Blk w g t (cellsR 2 pkV l)) (hn : l.length = n) (hB : w.heap.size ≤ B) (hl : ∀ x ∈ l,I64 x.1) : Picks w B (some ⟨g,0,none⟩) n l:=⟨h.recs hn hB,hl⟩
theorem Picks.more {w : World} {B B2 : Nat} {A : Option Addr} {n : Nat} {l : List (Int × Bool)} (h : Picks w B A n l) (hB : B ≤ B2) : Picks w B2 A n l:=⟨h.1.more hB,h.2⟩
theorem Picks.below {w w' : World} {B : Nat} {A : Option Addr} {n : Nat} {l : List (Int × Bool)} (h : Picks w B A n l) (hb : Below B w w') : Picks w' B A n l:=h.keep fun _ hp => hb.cell hp
structure Src (W : World) (B gP gL : Nat) (pg : Pg) (A : Option Addr) (n c : Nat) (z : List (Int × Bool)) : Prop where
  pb : Blk W gP 24 (pgC pg)
  lb : Blk W gL 27 [.slice A n c]
  ok : pg.Ok W B
  pk : Picks W B A n z
  lt : gP < B ∧ gL < B
theorem Src.below {W W' : World} {B gP gL : Nat} {pg : Pg} {A : Option Addr} {n c : Nat} {z : List (Int × Bool)} (h : Src W B gP gL pg A n c z) (hb : Below B W W') : Src W' B gP gL pg A n c z :=
  ⟨h.pb.below hb h.lt.1,h.lb.below hb h.lt.2,h.ok.below hb,h.pk.below hb,h.lt⟩
theorem OwnR.heldB11 {α : Type} {sz : Nat} {f : α → Nat → Value} {S : Nat → Prop} {w w' : World} {B : Nat} {e : TypeId} {v : Value} {l : List α} (h : OwnR sz f w B e v l) (hb : Held S w w') (hS : ∀ k,v.ownBlock = some k → S k) : OwnR sz f w' B e v l:=by
  refine ⟨h.1,?_⟩
  rcases h.2 with h1 | ⟨g,cap,cur,hv,hB,hg,rest⟩
  · exact .inl h1
  · exact .inr ⟨g,cap,cur,hv,hB,by rw [hb.block g (hS g (by rw [hv];rfl))];exact hg,rest⟩
theorem Mine.heldB11 {w w' : World} {B : Nat} {q : Pc} (h : Mine w B q) (hb : Held (fun k => B ≤ k ∧ k < w.heap.size) w w') : Mine w' B q :=
  ⟨h.row.heldB11 hb (fun k hk => h.row.block k hk),⟨fun k x hx => (h.fam.own k x hx).heldB11 hb (fun k hk => (h.fam.own _ x hx).block k hk),h.fam.out,h.fam.apart⟩⟩
theorem good_owp {p : Pg} {q : Pc} {c : M.Cf} (hg : M.Good p c) (h : q.cf = c) : q.ow.length = 16:=by subst h;exact hg.owns
theorem XN : (Try.prog.info? 51).map (·.zero) = some (some (.agg [Value.int .i64 0,.bool false].toArray)):=by kernel_rfl
theorem XO (x : Int) (b : Bool) : ∀ u ∈ [Value.int .i64 x,.bool b],u.oneCell' = true:=by
  intro u hu
  simp only [List.mem_cons,List.not_mem_nil,or_false] at hu
  rcases hu with h | h <;> subst h <;> rfl
set_option maxRecDepth 1000000 in
set_option maxHeartbeats 8000000 in
theorem sc_along2 (y : Value) (gP gL : Nat) (pg : Pg) (aL : Option Addr) (n c : Nat) (z : List (Int × Bool)) (W : World) (ca cb : Int) (hc : Q.check pg = (ca,cb,0)) (hn : n ≤ 2000) (J Jx : Nat → World → Prop)
    (hsrc : ∀ i A,J i A → Src A A.heap.size gP gL pg aL n c z) (hJb : ∀ i A A',J i A → Below A.heap.size A A' → J i A')
    (hJs : ∀ i A A' g cs,J i A → W.heap.size ≤ g → Blk A g 46 cs → A.grownBy A' (some g) → J i A')
    (hY : ∀ (i : Nat) A q,i ≤ n → J i A → W.heap.size ≤ A.heap.size → Mine A W.heap.size q → q.cf = runTo pg z i → q.ow.length = 16 → LK Try.prog y #[.int .i64 (i : Int),pcA q] A fun e A' => (e = .returned (.bool true) ∧ J (i + 1) A' ∨ e = .returned (.bool false) ∧ Jx i A') ∧ Held (fun k => W.heap.size ≤ k ∧ k < A.heap.size) A A')
    (h0 : J 0 W) : Calls Try.prog 55 #[y,.pointer (some ⟨gP,0,none⟩),.pointer (some ⟨gL,0,none⟩)] W fun e W' => (∃ v,e = .returned v) ∧ (J (n + 1) W' ∨ ∃ i,i ≤ n ∧ Jx i W'):=by
  have HF : Kept (Fine pg):=kp (qZ hc)
  have HS:=kp (hsrc 0 W h0)
  have HGd : Kept (∀ i,M.Good pg (runTo pg z i)):=kp (qT HF.out HS.out.ok.row.len z)
  have HSr:=kp hsrc;have HJb:=kp hJb;have HJs:=kp hJs;have HY:=kp hY;have H0:=kp h0;have HC:=kp hc
  clear hsrc hJb hJs hY h0 hc
  have hln:=HS.out.pk.1.len
  go_enter Try.func55,Try.ntmps55
  generalize hC8 : Code.region 8 _ false = C8
  have HC8:=kp hC8
  clear hC8
  go_wp2_with (first
    | ((with_reducible show Sl 10);go_must (refine j1 rfl 24 (.tmp 1) rfl gP rfl _ (pgC pg) _ HS.out.pb Try.underlying24 rfl jD ?_))
    | (go_at_call 15;fail))
  refine (xM W.heap.size pg W HS.out.ok (Nat.le_refl _) ca cb 0 HC.out).mono ?_
  unfold StartPost2
  rintro e w1 ⟨q0,rfl,hmi,hcf,_,h16,hb1⟩
  have HM1:=kp hmi;have HCf:=kp (hcf rfl);have H016:=kp h16;have H017:=kp (jT h16);have HB1:=kp hb1;have hs1:=hb1.size
  clear hmi hcf h16 hb1
  go_wp2_with (first
    | ((with_reducible show Sl 4);go_must (refine j3 rfl 46 rfl _ jZ ?_);intro gC w2 hgC hk2 hb2;have HKc:=kp hk2;have HGC : Kept (W.heap.size ≤ gC):=kp (by omega);have HB2:=kp (HB1.out.trans (hb2.mono hs1));have HM2:=kp (HM1.out.below hb2 (Nat.le_refl _));have hs2:=HB2.out.size;clear hk2 hb2 hgC)
    | ((with_reducible show Sn);(refine j4 rfl 46 (.tmp 4) (.tmp 12) rfl gC (pcC q0) rfl rfl _ _ HKc.out (by rw [H017.out];exact jA) (by rw [H017.out];rfl) (jW q0) ?_);intro w3 hk3 hg3 hz3
       have HK3:=kp hk3;have HB3:=kp (HB2.out.grown hg3 hs2 (fun k e => by cases e;exact HGC.out));have HM3:=kp (Mine.typed HM2.out HKc.out hg3);have hs3:=HB3.out.size
       have HJ3:=kp (HJb.out 0 W w3 H0.out HB3.out);have HL3:=(HS.out.below HB3.out).lb.cell 0
       clear hk3 hg3 hz3))
  clear HL3
  have HL3:=kp ((HS.out.below HB3.out).lb.cell 0)
  go_loopw [16] (fun v16 wr => ∃ (i : Nat) (q : Pc),i ≤ n ∧ v16 = .int .i64 i ∧ J i wr ∧ W.heap.size ≤ wr.heap.size ∧ Mine wr W.heap.size q ∧ q.cf = runTo pg z i ∧ q.ow.length = 16 ∧ Blk wr gC 46 (pcC q)) (fun v16 _ => n - (intOf v16).toNat)
  case atStart => exact ⟨0,q0,by omega,rfl,HJ3.out,hs3,HM3.out,by rw [YW];exact HCf.out,H016.out,HK3.out⟩
  case round =>
    generalize hC5 : Code.region 5 _ false = C5
    have HC5:=kp hC5
    clear hC5
    obtain ⟨i,q,hi,rfl,hj,hsz,hmq,hcq,h16q,hkc⟩:=hrel
    have HJ:=kp hj;have HMq:=kp hmq;have HCq:=kp hcq;have H16:=kp h16q;have H17:=kp (jT h16q);have HKC:=kp hkc;have HSr2:=kp (HSr.out i wr hj)
    have hlC:=hkc.lt
    clear hj hmq hcq h16q hkc
    by_cases hlt : i < n
    · obtain ⟨ad,x,rfl,hadB,hx,hx1,hcx0,hcx1⟩:=HSr2.out.pk.pick hlt
      have HX:=kp hx;have HX1:=kp hx1
      clear hx hx1
      have HQ : Kept (∀ Qf,¬ LetsOut Qf → ¬ LetsOut Qf):=kp (fun _ h => h)
      go_wp2_with (first
        | ((with_reducible show Sl 7);go_must (refine j3 rfl 51 rfl _ XN ?_);intro g7 w4 hg7 hk4 hb4;have HK4:=kp hk4;have HG7:=kp hg7;have HB4:=kp hb4;have hs4:=hb4.size;clear hk4 hb4 hg7)
        | ((with_reducible show Sn);(refine j4 rfl 51 (.tmp 7) (.tmp 20) rfl g7 [.int .i64 x.1,.bool x.2] rfl rfl _ _ HK4.out LU rfl (XO x.1 x.2) ?_);intro w5 hk5 hg5 hz5
           have HK5:=kp hk5;have HB5:=kp (HB4.out.grown hg5 hs4 (fun k e => by cases e;exact HG7.out));have hs5:=HB5.out.size
           have HS5:=kp (HSr2.out.below HB5.out);have HKC5:=kp (HKC.out.below HB5.out hlC);have HM5:=kp (HMq.out.below HB5.out (Nat.le_refl _))
           clear hk5 hg5 hz5)
        | ((with_reducible show Sl 21);go_must (refine j1 rfl 46 (.tmp 4) rfl gC rfl _ (pcC q) _ HKC5.out Try.underlying46 rfl (by rw [H17.out];exact jA) ?_))
        | ((with_reducible show Sl 22);go_must (refine j1 rfl 24 (.tmp 1) rfl gP rfl _ (pgC pg) _ HS5.out.pb Try.underlying24 rfl jD ?_))
        | ((with_reducible show Sl 23);go_must (refine j1 rfl 51 (.tmp 7) rfl g7 rfl _ [.int .i64 x.1,.bool x.2] _ HK5.out Try.underlying51 rfl LU ?_))
        | (go_at_call 17;fail))
      refine (vQ w5.heap.size pg HF.out q w5 (lD HS5.out.ok (by omega)) HM5.out.ok (by rw [HCq.out];exact HGd.out i) (Nat.le_refl _) x.1 HX1.out x.2).mono ?_
      rintro e w6 ⟨q',rfl,hm6,hcf6,hb6⟩
      have HM6:=kp (hm6.less (show W.heap.size ≤ w5.heap.size by omega));have HCf6 : Kept (q'.cf = runTo pg z (i + 1)):=kp (by rw [hcf6,HCq.out,JM pg z i x HX.out]);have HB6:=kp (HB5.out.trans (hb6.mono hs5));have hs6:=HB6.out.size
      have H16' : Kept (q'.ow.length = 16):=kp (good_owp (HGd.out (i + 1)) HCf6.out);have H17':=kp (jT H16'.out)
      clear hm6 hcf6 hb6 hcx0 hcx1
      go_wp2_with (first
        | ((with_reducible show Sl 8);go_must (refine j3 rfl 46 rfl _ jZ ?_);intro g8 w7 hg8 hk7 hb7;have HK7:=kp hk7;have HG8 : Kept (wr.heap.size ≤ g8):=kp (by omega);have HB7:=kp (HB6.out.trans (hb7.mono hs6));have hs7:=HB7.out.size;have HM7:=kp (HM6.out.below hb7 (Nat.le_refl _));clear hk7 hb7 hg8)
        | ((with_reducible show Sn);(refine j4 rfl 46 (.tmp 8) (.tmp 24) rfl g8 (pcC q') rfl rfl _ _ HK7.out (by rw [H17'.out];exact jA) (by rw [H17'.out];rfl) (jW q') ?_);intro w8 hk8 hg8' hz8
           have HK8:=kp hk8;have HM8:=kp (Mine.typed HM7.out HK7.out hg8');have HB8:=kp (HB7.out.grown hg8' hs7 (fun k e => by cases e;exact HG8.out));have hs8:=HB8.out.size
           have HJ8:=kp (HJb.out i wr w8 HJ.out HB8.out);have HKC8:=kp (HKC.out.below HB8.out hlC);have HMq8:=kp (HMq.out.below HB8.out (Nat.le_refl _))
           clear hk8 hg8' hz8))
      rw [← HC5.out]
      refine (wpIn_wide (n:=1)).1 (wpIn_region_lit ?_)
      refine qV (r:=none) (pre:=[_,_,_]) (rest:=[_,_]) (by rintro ⟨_,_,h⟩;obtain ⟨⟨v,hv⟩,_⟩:=h;cases hv) _ _ (by decide) ?_
      go_wp2_with (first
        | ((with_reducible show Sl 27);go_must (refine j1 rfl 46 (.tmp 4) rfl gC rfl _ (pcC q) _ HKC8.out Try.underlying46 rfl (by rw [H17.out];exact jA) ?_)))
      refine vZ (.tmp 25) [.tmp 26,.tmp 27] #[3,46] rfl rfl (y:=y) (vs:=[.int .i64 (i : Int),pcA q]) rfl rfl (HY.out i w8 q hi HJ8.out (by omega) HMq8.out HCq.out H16.out) ?_
      rintro e w9 ⟨h,hheld⟩
      have HHd:=kp hheld;have hs9:=hheld.size
      clear hheld
      rcases h with ⟨rfl,hj9⟩ | ⟨rfl,hx9⟩
      · have HJ9:=kp hj9;have HK9:=kp (HK8.out.held HHd.out ⟨by have:=HG8.out;omega,HK8.out.lt⟩);have HKC9:=kp (HKC8.out.held HHd.out ⟨HGC.out,HKC8.out.lt⟩);have HM9:=kp (HM8.out.heldB11 HHd.out)
        clear hj9
        refine ⟨_,rfl,?_⟩
        refine qV (r:=none) (pre:=[_]) (rest:=[]) (by rintro ⟨_,_,h⟩;obtain ⟨⟨v,hv⟩,_⟩:=h;cases hv) _ _ (by decide) ?_
        go_wp2
        show Exit.then _ _ Exit.normal _ _
        go_wp2_with (first
          | ((with_reducible show Sl 30);go_must (refine j1 rfl 46 (.tmp 8) rfl g8 rfl _ (pcC q') _ HK9.out Try.underlying46 rfl (by rw [H17'.out];exact jA) ?_))
          | ((with_reducible show Sn);(refine j4 rfl 46 (.tmp 4) (.tmp 30) rfl gC (pcC q') rfl rfl _ _ HKC9.out (by rw [H17'.out];exact jA) (by rw [H17'.out,H17.out]) (jW q') ?_);intro w10 hk10 hg10 hz10
             have HK10:=kp hk10;have HM10:=kp (Mine.typed HM9.out HKC9.out hg10);have HJ10:=kp (HJs.out (i + 1) w9 w10 gC _ HJ9.out HGC.out HKC9.out hg10)
             have HZ10 : Kept (W.heap.size ≤ w10.heap.size):=kp (by omega)
             clear hk10 hg10 hz10))
        go_roundw
        case rel => exact ⟨i + 1,q',by omega,by go_num,HJ10.out,HZ10.out,HM10.out,HCf6.out,H16'.out,HK10.out⟩
        case measure => simp [intOf];omega
      · have HX9:=kp hx9
        clear hx9
        refine ⟨_,rfl,?_⟩
        refine qV (r:=none) (pre:=[_]) (rest:=[]) (by rintro ⟨_,_,h⟩;obtain ⟨⟨v,hv⟩,_⟩:=h;cases hv) _ _ (by decide) ?_
        go_wp2
        show Exit.then _ _ Exit.normal _ _
        go_wp2
        refine bodyPost_ret (results_none rfl _ _ _) rfl ?_
        exact ⟨⟨_,rfl⟩,.inr ⟨i,hi,HX9.out⟩⟩
    · have hge : n ≤ i:=by omega
      have hin : i = n:=by omega
      clear hlt
      go_wp2
      rw [← HC8.out]
      refine (wpIn_wide (n:=1)).1 (wpIn_region_lit ?_)
      refine qV (r:=none) (pre:=[_,_,_,_]) (rest:=[_]) (by rintro ⟨_,_,h⟩;obtain ⟨⟨v,hv⟩,_⟩:=h;cases hv) _ _ (by decide) ?_
      have hl3:=HSr2.out.lb.cell 0
      go_wp2_with (first
        | ((with_reducible show Sl 35);go_must (refine j1 rfl 46 (.tmp 4) rfl gC rfl _ (pcC q) _ HKC.out Try.underlying46 rfl (by rw [H17.out];exact jA) ?_)))
      clear hl3
      refine vZ (.tmp 32) [.tmp 34,.tmp 35] #[3,46] rfl rfl (y:=y) (vs:=[.int .i64 (n : Int),pcA q]) rfl rfl (HY.out n wr q (by omega) (by rw [← hin];exact HJ.out) hsz HMq.out (by rw [← hin];exact HCq.out) H16.out) ?_
      rintro e w9 ⟨h,hheld⟩
      have HEnd : Kept (J (n + 1) w9 ∨ ∃ i,i ≤ n ∧ Jx i w9):=kp (by
        rcases h with ⟨_,h⟩ | ⟨_,h⟩
        · exact .inl h
        · exact .inr ⟨n,by omega,h⟩)
      have hret : ∃ v,e = Ending.returned v:=by
        rcases h with ⟨rfl,_⟩ | ⟨rfl,_⟩
        · exact ⟨_,rfl⟩
        · exact ⟨_,rfl⟩
      obtain ⟨v,rfl⟩:=hret
      clear h hheld
      refine ⟨_,rfl,?_⟩
      refine wpListIn_nil ?_
      exact ⟨rfl,_,results_none rfl _ _ _,⟨_,rfl⟩,HEnd.out⟩
def rdN (x : Nd) : Nd:=if x.kind = 2 then ⟨1,x.arg,x.next,x.alt⟩ else x
theorem rdN_yes {x : Nd} (h : x.kind = 2) : rdN x = ⟨1,x.arg,x.next,x.alt⟩:=if_pos h
theorem rdN_no {x : Nd} (h : ¬ x.kind = 2) : rdN x = x:=if_neg h
theorem XL {x : Nd} (h : x.kind = 7) : rdN x = x:=rdN_no (by omega)
theorem may_rd (g l s f : Int) (x : Nd) (n : Int) : Q.may g l s f (rdN x) n = Q.may g l s f x n:=by
  by_cases h2 : x.kind = 2
  · rw [rdN_yes h2]
    unfold Q.may
    have e : Q.row (1 : Int) = Q.row x.kind:=by rw [h2];rfl
    rw [show (⟨1,x.arg,x.next,x.alt⟩ : Nd).kind = 1 from rfl,e];rfl
  · rw [rdN_no h2]
structure CopyOf (p q : Pg) : Prop where
  g : q.g = p.g
  l : q.l = p.l
  s : q.s = p.s
  len : q.len = p.len
  fns : q.fns.map (·.nodes) = p.fns.map fun x => x.nodes.map rdN
section
variable {p q : Pg}
theorem CopyOf.length (h : CopyOf p q) : q.fns.length = p.fns.length:=by
  have e:=congrArg List.length h.fns
  rwa [List.length_map,List.length_map] at e
theorem CopyOf.fn (h : CopyOf p q) {j : Nat} {fn : Fn} (hf : p.fns[j]? = some fn) : ∃ fn',q.fns[j]? = some fn' ∧ fn'.nodes = fn.nodes.map rdN:=by
  have e:=congrArg (fun l => l[j]?) h.fns
  simp only [List.getElem?_map,hf,Option.map_some] at e
  cases hq : q.fns[j]? with
  | none => rw [hq] at e;cases e
  | some fn' => rw [hq] at e;exact ⟨fn',rfl,Option.some.inj e⟩
theorem CopyOf.fault (h : CopyOf p q) {fn fn' : Fn} (hn : fn'.nodes = fn.nodes.map rdN) : Q.fnFault q fn' = Q.fnFault p fn:=by
  have hb : Q.badNode q fn' = Q.badNode p fn:=by
    funext i
    unfold Q.badNode
    rw [hn,h.g,h.l,h.s,h.len,List.length_map]
    apply propext
    constructor
    · rintro ⟨nd,h1,h2⟩
      rw [List.getElem?_map] at h1
      cases hx : fn.nodes[i]? with
      | none => rw [hx] at h1;cases h1
      | some x =>
        rw [hx] at h1
        cases h1
        rw [may_rd] at h2
        exact ⟨x,rfl,h2⟩
    · rintro ⟨nd,h1,h2⟩
      exact ⟨rdN nd,by rw [List.getElem?_map,h1];rfl,by rw [may_rd];exact h2⟩
  unfold Q.fnFault
  rw [hb,hn,List.length_map]
theorem CopyOf.badFn (h : CopyOf p q) {j : Nat} (hb : Q.badFn p j) : Q.badFn q j:=by
  obtain ⟨fn,hf,h2⟩:=hb
  obtain ⟨fn',hf',hn⟩:=h.fn hf
  exact ⟨fn',hf',by rw [h.fault hn];exact h2⟩
theorem CopyOf.calls (h : CopyOf p q) {x y : Nat} (hc : Q.calls p x y) : Q.calls q x y:=by
  obtain ⟨fn,hf,nd,hm,h7,ha⟩:=hc
  obtain ⟨fn',hf',hn⟩:=h.fn hf
  refine ⟨fn',hf',nd,?_,h7,ha⟩
  rw [hn]
  exact List.mem_map.2 ⟨nd,hm,XL h7⟩
theorem CopyOf.reach (h : CopyOf p q) {n x y : Nat} (hr : Q.Reach (Q.calls p) n x y) : Q.Reach (Q.calls q) n x y:=by
  induction hr with
  | one h1 => exact .one (h.calls h1)
  | more h1 h2 _ ih => exact .more (h.calls h1) h2 ih
theorem CopyOf.badRound (h : CopyOf p q) {j : Nat} (hb : Q.badRound p j) : Q.badRound q j:=by
  obtain ⟨i,fn,nd,hf,hx,h7,k,ha,hk,hr⟩:=hb
  obtain ⟨fn',hf',hn⟩:=h.fn hf
  refine ⟨i,fn',nd,hf',by rw [hn,List.getElem?_map,hx];exact congrArg some (XL h7),h7,k,ha,by rw [h.length];exact hk,?_⟩
  rcases hr with hr | hr
  · exact .inl hr
  · exact .inr (by rw [h.length];exact h.reach hr)
end
def fnR (x : Fn) (_ : Nat) : Value:=fnV x
theorem fnR_one (x : Fn) (j : Nat) : (fnR x j).oneCell' = true:=rfl
theorem ndV_one (x : Nd) (j : Nat) : (ndV x j).oneCell' = true:=by unfold ndV;split <;> rfl
theorem recs_fns {w : World} {B n : Nat} {A : Option Addr} {l : List Fn} (h : Recs 1 fnR w B A n l) : Row fnV w B A n l :=
  ⟨h.len,fun h0 => by
    obtain ⟨ad,e,hb,hc⟩:=h.cells h0
    refine ⟨ad,e,hb,fun k hk => ?_⟩
    have hx : l[k]? = some (l[k]'(by rw [h.len];exact hk)):=List.getElem?_eq_getElem _
    have:=hc k _ hx 0 (by omega)
    rw [Nat.mul_one,Nat.add_zero] at this
    rw [this,hx];rfl⟩
structure FnsOwn (w : World) (B : Nat) (l : List Fn) : Prop where
  own : ∀ x ∈ l,OwnR 4 ndV w B 55 (fnV x) x.nodes
  ok : ∀ x ∈ l,∀ y ∈ x.nodes,y.Ok
section
variable {w w' : World} {B : Nat} {l : List Fn}
theorem FnsOwn.nil (w : World) (B : Nat) : FnsOwn w B []:=⟨(fun _ h => by cases h),(fun _ h => by cases h)⟩
theorem FnsOwn.below (h : FnsOwn w B l) (hb : Below w.heap.size w w') : FnsOwn w' B l:=⟨fun x hx => (h.own x hx).below hb (Nat.le_refl _),h.ok⟩
theorem FnsOwn.snoc (h : FnsOwn w B l) {x : Fn} (ho : OwnR 4 ndV w B 55 (fnV x) x.nodes) (hok : ∀ y ∈ x.nodes,y.Ok) : FnsOwn w B (l ++ [x]) :=
  ⟨fun y hy => by
    rcases List.mem_append.1 hy with h1 | h1
    · exact h.own y h1
    · rw [List.mem_singleton.1 h1];exact ho,fun y hy => by
    rcases List.mem_append.1 hy with h1 | h1
    · exact h.ok y h1
    · rw [List.mem_singleton.1 h1];exact hok⟩
theorem FnsOwn.fn (h : FnsOwn w B l) : ∀ x ∈ l,x.Ok w w.heap.size:=fun x hx => by
  have ho:=h.own x hx
  have h1:=ho.len_is
  refine ⟨⟨ho.recs,h.ok x hx⟩,h1.2.1,h1.2.2,fun hn => ?_⟩
  rcases ho.2 with ⟨h2,_⟩ | ⟨g,cap,cur,h2,_⟩
  · unfold fnV at h2;injection h2
  · unfold fnV at h2
    rw [hn] at h2
    injection h2 with h3
    cases h3
end
theorem pkV_one (x : Int × Bool) (j : Nat) : (pkV x j).oneCell' = true:=by unfold pkV;split <;> rfl
theorem XR : (Try.prog.info? 55).map (fun i => (i.zero,i.size,i.bytes)) = some (some (.agg #[.int .i64 0,.int .i64 0,.int .i64 0,.int .i64 0]),4,32):=by kernel_rfl
theorem QS : (Try.prog.info? 56).map (fun i => (i.zero,i.size,i.bytes)) = some (some (.slice none 0 0),1,24):=by kernel_rfl
set_option maxRecDepth 100000 in
set_option maxHeartbeats 1600000 in
theorem YT (A : Option Addr) (n c : Nat) (l : List (Int × Bool)) (w : World) (hr : Recs 2 pkV w w.heap.size A n l) (hn : n ≤ 2000) :
    Calls Try.prog 54 #[.slice A n c] w fun e w' => ∃ v,e = .returned v ∧ OwnR 2 pkV w' w.heap.size 51 v l ∧ Below w.heap.size w w':=by
  have HR:=kp hr
  have hlen:=hr.len
  have HLen:=kp hlen
  clear hr hlen
  cases A with
  | none =>
    have hl : l = []:=by
      have h0 : n = 0:=by
        rcases Nat.eq_zero_or_pos n with h0 | h0
        · exact h0
        · obtain ⟨_,h,_⟩:=HR.out.cells h0;cases h
      exact List.eq_nil_of_length_eq_zero (by rw [HLen.out];exact h0)
    subst hl
    have hnil : (binOp .eql 27 (.slice none n c) (.slice none 0 0)).run Try.prog w = .ok (.bool true) w:=Lib.run_eql_slice_nil w _ _ none n c 0 0 Try.underlying27
    go_enter Try.func54,Try.ntmps54
    go_wp2
    go_ret
    exact ⟨_,rfl,OwnR.nil _ _ _ _ _,Below.refl _ _⟩
  | some ad =>
    have hnil : (binOp .eql 27 (.slice (some ad) n c) (.slice none 0 0)).run Try.prog w = .ok (.bool false) w:=Lib.run_eql_slice_nil w _ _ (some ad) n c 0 0 Try.underlying27
    go_enter Try.func54,Try.ntmps54
    have HB : Kept (Below w.heap.size w (w.alloc (.cells #[] 51))):=kp ((Below.refl _ _).alloc (Nat.le_refl _) _)
    have HE : Kept (OwnR 2 pkV (w.alloc (.cells #[] 51)) w.heap.size 51 (.slice (some ⟨w.heap.size,0,none⟩) 0 0) []):=kp (OwnR.empty _ _ _ _ _ (Nat.le_refl _))
    have HS : Kept (w.heap.size ≤ (w.alloc (.cells #[] 51)).heap.size):=kp HB.out.size
    go_wp2_with (at_builtin;go_must (refine lJ rfl (.tmp 5) (.tmp 6) 27 rfl w.heap.size 51 2 _ 16 Try.underlying27 pick_info rfl (by omega) pkV pkV_one _ _ [] rfl HE.out (some ad) n c w.heap.size l rfl (HR.out.below HB.out) (by unfold maxLen;simp;omega) (by simp;omega) HS.out ?_);intro v' w' hown hgr;rw [List.nil_append] at hown;have HOw:=kp hown;have HBe:=kp (HB.out.grown hgr.1 HS.out (fun k e => by cases e;exact Nat.le_refl _));clear hown hgr)
    go_ret
    exact ⟨_,rfl,HOw.out,HBe.out⟩
set_option maxRecDepth 100000 in
set_option maxHeartbeats 1600000 in
theorem YU (A : Option Addr) (n c : Nat) (l : List Nd) (w : World) (hr : Recs 4 ndV w w.heap.size A n l) (hn : n ≤ 2000) :
    Calls Try.prog 75 #[.slice A n c] w fun e w' => ∃ v,e = .returned v ∧ OwnR 4 ndV w' w.heap.size 55 v l ∧ Below w.heap.size w w':=by
  have HR:=kp hr
  have hlen:=hr.len
  have HLen:=kp hlen
  clear hr hlen
  cases A with
  | none =>
    have hl : l = []:=by
      have h0 : n = 0:=by
        rcases Nat.eq_zero_or_pos n with h0 | h0
        · exact h0
        · obtain ⟨_,h,_⟩:=HR.out.cells h0;cases h
      exact List.eq_nil_of_length_eq_zero (by rw [HLen.out];exact h0)
    subst hl
    have hnil : (binOp .eql 56 (.slice none n c) (.slice none 0 0)).run Try.prog w = .ok (.bool true) w:=Lib.run_eql_slice_nil w _ _ none n c 0 0 Try.underlying56
    go_enter Try.func75,Try.ntmps75
    go_wp2
    go_ret
    exact ⟨_,rfl,OwnR.nil _ _ _ _ _,Below.refl _ _⟩
  | some ad =>
    have hnil : (binOp .eql 56 (.slice (some ad) n c) (.slice none 0 0)).run Try.prog w = .ok (.bool false) w:=Lib.run_eql_slice_nil w _ _ (some ad) n c 0 0 Try.underlying56
    go_enter Try.func75,Try.ntmps75
    have HB : Kept (Below w.heap.size w (w.alloc (.cells #[] 55))):=kp ((Below.refl _ _).alloc (Nat.le_refl _) _)
    have HE : Kept (OwnR 4 ndV (w.alloc (.cells #[] 55)) w.heap.size 55 (.slice (some ⟨w.heap.size,0,none⟩) 0 0) []):=kp (OwnR.empty _ _ _ _ _ (Nat.le_refl _))
    have HS : Kept (w.heap.size ≤ (w.alloc (.cells #[] 55)).heap.size):=kp HB.out.size
    go_wp2_with (at_builtin;go_must (refine lJ rfl (.tmp 5) (.tmp 6) 56 rfl w.heap.size 55 4 _ 32 Try.underlying56 XR rfl (by omega) ndV ndV_one _ _ [] rfl HE.out (some ad) n c w.heap.size l rfl (HR.out.below HB.out) (by unfold maxLen;simp;omega) (by simp;omega) HS.out ?_);intro v' w' hown hgr;rw [List.nil_append] at hown;have HOw:=kp hown;have HBe:=kp (HB.out.grown hgr.1 HS.out (fun k e => by cases e;exact Nat.le_refl _));clear hown hgr)
    go_ret
    exact ⟨_,rfl,HOw.out,HBe.out⟩
set_option maxRecDepth 100000 in
set_option maxHeartbeats 1600000 in
theorem YV (A : Option Addr) (n c : Nat) (l : List Fn) (w : World) (hr : Recs 1 fnR w w.heap.size A n l) (hn : n ≤ 2000) :
    Calls Try.prog 74 #[.slice A n c] w fun e w' => ∃ v,e = .returned v ∧ OwnR 1 fnR w' w.heap.size 56 v l ∧ Below w.heap.size w w':=by
  have HR:=kp hr
  have hlen:=hr.len
  have HLen:=kp hlen
  clear hr hlen
  cases A with
  | none =>
    have hl : l = []:=by
      have h0 : n = 0:=by
        rcases Nat.eq_zero_or_pos n with h0 | h0
        · exact h0
        · obtain ⟨_,h,_⟩:=HR.out.cells h0;cases h
      exact List.eq_nil_of_length_eq_zero (by rw [HLen.out];exact h0)
    subst hl
    have hnil : (binOp .eql 22 (.slice none n c) (.slice none 0 0)).run Try.prog w = .ok (.bool true) w:=Lib.run_eql_slice_nil w _ _ none n c 0 0 Try.underlying22
    go_enter Try.func74,Try.ntmps74
    go_wp2
    go_ret
    exact ⟨_,rfl,OwnR.nil _ _ _ _ _,Below.refl _ _⟩
  | some ad =>
    have hnil : (binOp .eql 22 (.slice (some ad) n c) (.slice none 0 0)).run Try.prog w = .ok (.bool false) w:=Lib.run_eql_slice_nil w _ _ (some ad) n c 0 0 Try.underlying22
    go_enter Try.func74,Try.ntmps74
    have HB : Kept (Below w.heap.size w (w.alloc (.cells #[] 56))):=kp ((Below.refl _ _).alloc (Nat.le_refl _) _)
    have HE : Kept (OwnR 1 fnR (w.alloc (.cells #[] 56)) w.heap.size 56 (.slice (some ⟨w.heap.size,0,none⟩) 0 0) []):=kp (OwnR.empty _ _ _ _ _ (Nat.le_refl _))
    have HS : Kept (w.heap.size ≤ (w.alloc (.cells #[] 56)).heap.size):=kp HB.out.size
    go_wp2_with (at_builtin;go_must (refine lJ rfl (.tmp 5) (.tmp 6) 22 rfl w.heap.size 56 1 _ 24 Try.underlying22 QS rfl (by omega) fnR fnR_one _ _ [] rfl HE.out (some ad) n c w.heap.size l rfl (HR.out.below HB.out) (by unfold maxLen;simp;omega) (by simp;omega) HS.out ?_);intro v' w' hown hgr;rw [List.nil_append] at hown;have HOw:=kp hown;have HBe:=kp (HB.out.grown hgr.1 HS.out (fun k e => by cases e;exact Nat.le_refl _));clear hown hgr)
    go_ret
    exact ⟨_,rfl,HOw.out,HBe.out⟩
end Go.Proofs.Ytnaomfmmkhgbhaa
namespace Go.Proofs.Ytnaomfmmkhgbhaa
structure Twin (p q : Pg) : Prop where
  g : q.g = p.g
  l : q.l = p.l
  s : q.s = p.s
  len : q.len = p.len
  fns : q.fns.map (·.nodes) = p.fns.map (·.nodes)
section
variable {p q : Pg}
theorem Twin.refl (p : Pg) : Twin p p:=⟨rfl,rfl,rfl,rfl,rfl⟩
theorem Twin.symm (h : Twin p q) : Twin q p:=⟨h.g.symm,h.l.symm,h.s.symm,h.len.symm,h.fns.symm⟩
theorem Twin.length (h : Twin p q) : q.fns.length = p.fns.length:=by
  have e:=congrArg List.length h.fns
  rwa [List.length_map,List.length_map] at e
theorem Twin.fn (h : Twin p q) {j : Nat} {fn : Fn} (hf : p.fns[j]? = some fn) : ∃ fn',q.fns[j]? = some fn' ∧ fn'.nodes = fn.nodes:=by
  have e:=congrArg (fun l => l[j]?) h.fns
  simp only [List.getElem?_map,hf,Option.map_some] at e
  cases hq : q.fns[j]? with
  | none => rw [hq] at e;cases e
  | some fn' => rw [hq] at e;exact ⟨fn',rfl,Option.some.inj e⟩
theorem Twin.fault (h : Twin p q) {fn fn' : Fn} (hn : fn'.nodes = fn.nodes) : Q.fnFault q fn' = Q.fnFault p fn:=by
  have hb : Q.badNode q fn' = Q.badNode p fn:=by
    funext i
    unfold Q.badNode
    rw [hn,h.g,h.l,h.s,h.len]
  unfold Q.fnFault
  rw [hb,hn]
theorem Twin.badFn (h : Twin p q) {j : Nat} (hb : Q.badFn p j) : Q.badFn q j:=by
  obtain ⟨fn,hf,h2⟩:=hb
  obtain ⟨fn',hf',hn⟩:=h.fn hf
  exact ⟨fn',hf',by rw [h.fault hn];exact h2⟩
theorem Twin.calls (h : Twin p q) {x y : Nat} (hc : Q.calls p x y) : Q.calls q x y:=by
  obtain ⟨fn,hf,nd,hm,h7,ha⟩:=hc
  obtain ⟨fn',hf',hn⟩:=h.fn hf
  exact ⟨fn',hf',nd,by rw [hn];exact hm,h7,ha⟩
theorem Twin.reach (h : Twin p q) {n x y : Nat} (hr : Q.Reach (Q.calls p) n x y) : Q.Reach (Q.calls q) n x y:=by
  induction hr with
  | one h1 => exact .one (h.calls h1)
  | more h1 h2 _ ih => exact .more (h.calls h1) h2 ih
theorem Twin.badRound (h : Twin p q) {j : Nat} (hb : Q.badRound p j) : Q.badRound q j:=by
  obtain ⟨i,fn,nd,hf,hx,h7,k,ha,hk,hr⟩:=hb
  obtain ⟨fn',hf',hn⟩:=h.fn hf
  refine ⟨i,fn',nd,hf',by rw [hn];exact hx,h7,k,ha,by rw [h.length];exact hk,?_⟩
  rcases hr with hr | hr
  · exact .inl hr
  · exact .inr (by rw [h.length];exact h.reach hr)
theorem Twin.fine (h : Twin p q) (hf : Fine p) : Fine q:=by
  have hl:=h.length
  have hc:=hf.counts
  exact ⟨⟨by have:=hc.g;rw [← h.g] at this;exact this,by have:=hc.l;rw [← h.l] at this;exact this,by have:=hc.s;rw [← h.s] at this;exact this,by have:=hc.f;rw [← hl] at this;exact this⟩,
    fun j hj hb => hf.nodes j (by omega) (h.symm.badFn hb),fun j hj hb => hf.round j (by omega) (h.symm.badRound hb)⟩
theorem Twin.check (h : Twin p q) (hf : Fine p) : Q.check q = (0,0,0):=by
  have hq:=h.fine hf
  exact Q.check_fine hq.counts hq.nodes hq.round
theorem uY (p : Pg) (x : Nat × Nat) : M.nodeAt p x = ((p.fns.map (·.nodes)).getD x.1 []).getD x.2 default:=by
  have e : (p.fns.getD x.1 default).nodes = (p.fns.map (·.nodes)).getD x.1 []:=by
    rw [List.getD_eq_getElem?_getD,List.getD_eq_getElem?_getD,List.getElem?_map]
    cases p.fns[x.1]? with
    | none => rfl
    | some f => rfl
  unfold M.nodeAt
  rw [e]
theorem Twin.nodeAt (h : Twin p q) : M.nodeAt q = M.nodeAt p:=by
  funext x
  rw [uY,uY,h.fns]
theorem Twin.node (h : Twin p q) : M.node q = M.node p:=by funext c t;unfold M.node;rw [h.nodeAt]
theorem Twin.enabled (h : Twin p q) : M.enabled q = M.enabled p:=by funext c t;unfold M.enabled M.enabledN;rw [h.node]
theorem Twin.step (h : Twin p q) : M.step q = M.step p:=by funext c t way;unfold M.step;rw [h.enabled,h.node]
theorem Twin.runTo (h : Twin p q) (z : List (Int × Bool)) (i : Nat) : runTo q z i = runTo p z i:=by unfold Go.Proofs.Ytnaomfmmkhgbhaa.runTo;rw [h.step]
theorem Twin.acc (h : Twin p q) : M.acc q = M.acc p:=by funext c t;unfold M.acc;rw [h.node]
theorem Twin.pair (h : Twin p q) : M.pair q = M.pair p:=by funext c a b g;unfold M.pair;rw [h.acc]
end
end Go.Proofs.Ytnaomfmmkhgbhaa
namespace Go.Proofs.Ytnaomfmmkhgbhaa
open Go.RowKit
theorem FnsOwn.turn11 {w w' : World} {B : Nat} {l : List Fn} (h : FnsOwn w B l) {g : Nat} (hg : w.grownBy w' (some g)) (hB : g < B) : FnsOwn w' B l :=
  ⟨fun x hx => (h.own x hx).far hg (by
    cases hv : (fnV x).ownBlock with
    | none => exact .inl rfl
    | some b =>
      refine .inr fun e => ?_
      have h1:=((h.own x hx).block b hv).1
      injection e with e
      omega),h.ok⟩
theorem FnsOwn.less11 {w : World} {B B' : Nat} {l : List Fn} (h : FnsOwn w B l) (hB : B' ≤ B) : FnsOwn w B' l:=⟨fun x hx => (h.own x hx).less hB,h.ok⟩
theorem pg_zero11 : (Try.prog.info? 24).map (·.zero) = some (some (.agg [Value.int .i64 0,.int .i64 0,.int .i64 0,.slice none 0 0].toArray)):=by kernel_rfl
theorem LV (p : Pg) : ∀ u ∈ pgC p,u.oneCell' = true:=by
  intro u hu
  simp only [pgC,List.mem_cons,List.not_mem_nil,or_false] at hu
  rcases hu with h | h | h | h <;> subst h <;> rfl
theorem size1n11 : (Try.prog.info? 56).map (·.size) = some 1:=by kernel_rfl
theorem size1nn11 : (Try.prog.info? 22).map (·.size) = some 1:=by kernel_rfl
def Fact.nodesN (B K : Nat) (l : List Nd) : Fact :=
  ⟨fun v W => OwnR 4 ndV W B 55 v l ∧ ∀ b,v.ownBlock = some b → K ≤ b,fun _ _ _ hb ⟨h1,h2⟩ => ⟨h1.below hb (Nat.le_refl _),h2⟩⟩
theorem cp_fns {W w7 : World} {B0 gF n cap i : Nat} {fns fns1 : List Fn} {x x' : Fn} {cur : List Value} (hr : OwnR 1 fnR W B0 56 (.slice (some ⟨gF,0,none⟩) n cap) (fns1 ++ fns.drop i)) (hx : fns[i]? = some x) (hl : fns1.length = i)
    (hb : Blk W gF 56 cur) (hb7 : Blk w7 gF 56 (cur.set i (fnV x'))) : OwnR 1 fnR w7 B0 56 (.slice (some ⟨gF,0,none⟩) n cap) ((fns1 ++ [x']) ++ fns.drop (i + 1)):=by
  have hi : i < fns.length:=(List.getElem?_eq_some_iff.1 hx).1
  have hd : fns.drop i = x :: fns.drop (i + 1):=by
    rw [List.drop_eq_getElem_cons hi]
    have : fns[i] = x:=by rw [List.getElem?_eq_getElem hi] at hx;exact Option.some.inj hx
    rw [this]
  have hk : (fns1 ++ fns.drop i)[i]? = some x:=by
    rw [List.getElem?_append_right (by omega),hl,Nat.sub_self,hd];rfl
  have h:=hr.set (k:=i) (j:=0) (x':=x') (v:=fnV x') hk (by omega) (fun j hj => by
    have : j = 0:=by omega
    subst this;rfl) hb (by rw [Nat.mul_one,Nat.add_zero]) hb7
  have e : (fns1 ++ fns.drop i).set i x' = (fns1 ++ [x']) ++ fns.drop (i + 1):=by
    rw [hd,List.set_append_right _ _ (by omega),hl,Nat.sub_self,List.set_cons_zero,List.append_assoc];rfl
  rw [e] at h
  exact h
def pgF (p : Pg) (gF n c : Nat) : List Value:=[.int .i64 p.g,.int .i64 p.l,.int .i64 p.s,.slice (some ⟨gF,0,none⟩) n c]
structure PgMine (w : World) (B : Nat) (q : Pg) : Prop where
  g : I64 q.g
  l : I64 q.l
  s : I64 q.s
  row : OwnR 1 fnR w B 56 (.slice q.A q.len q.cap) q.fns
  fns : FnsOwn w B q.fns
  nil : q.A = none → q.cap = 0
theorem PgMine.ok {w : World} {B : Nat} {q : Pg} (h : PgMine w B q) : q.Ok w w.heap.size :=
  ⟨h.g,h.l,h.s,recs_fns h.row.recs,h.fns.fn,h.row.len_is.2.1,h.row.len_is.2.2,h.nil⟩
theorem PgMine.below {w w' : World} {B : Nat} {q : Pg} (h : PgMine w B q) (hb : Below w.heap.size w w') : PgMine w' B q:=⟨h.g,h.l,h.s,h.row.below hb (Nat.le_refl _),h.fns.below hb,h.nil⟩
theorem PgMine.less {w : World} {B B' : Nat} {q : Pg} (h : PgMine w B q) (hB : B' ≤ B) : PgMine w B' q:=⟨h.g,h.l,h.s,h.row.less hB,h.fns.less11 hB,h.nil⟩
theorem PgMine.turn {w w' : World} {B g : Nat} {q : Pg} (h : PgMine w B q) (hg : w.grownBy w' (some g)) (hB : g < B) : PgMine w' B q :=
  ⟨h.g,h.l,h.s,h.row.far hg (by
    cases hv : (Value.slice q.A q.len q.cap).ownBlock with
    | none => exact .inl rfl
    | some b =>
      refine .inr fun e => ?_
      have h1:=(h.row.block b hv).1
      injection e with e
      omega),h.fns.turn11 hg hB,h.nil⟩
def CopyPost (p : Pg) (w : World) : Ending → World → Prop:=fun e w' => ∃ q : Pg,e = .returned (pgA q) ∧ Twin p q ∧ PgMine w' w.heap.size q ∧ Below w.heap.size w w'
set_option maxRecDepth 1000000 in
set_option maxHeartbeats 8000000 in
theorem sc_copied (B : Nat) (p : Pg) (w : World) (hp : p.Ok w B) (hf : Fine p) (hB : B ≤ w.heap.size) :
    Calls Try.prog 53 #[pgA p] w (CopyPost p w):=by
  obtain ⟨fns,hfn⟩ : ∃ fns,p.fns = fns:=⟨_,rfl⟩
  obtain ⟨n,hn⟩ : ∃ n,p.len = n:=⟨_,rfl⟩
  have HFn:=kp hfn;have HN:=kp hn
  have HL : Kept (fns.length = n):=kp (by rw [← hfn,← hn];exact hp.row.len)
  have h0 : 0 < n:=by have:=hf.counts.f.1;rw [hfn,HL.out] at this;exact this
  have h16 : n ≤ 16:=by have:=hf.counts.f.2;rw [hfn,HL.out] at this;exact this
  have HRow : Kept (Row fnV w B p.A n fns):=kp (by rw [← hfn,← hn];exact hp.row)
  have HOk : Kept (∀ f ∈ fns,f.Ok w B ∧ f.len ≤ 64):=kp (fun f hm => by
    rw [← hfn] at hm
    refine ⟨hp.fns f hm,?_⟩
    obtain ⟨j,hj⟩:=List.getElem?_of_mem hm
    have h1:=Q.fine_fn hj (hf.nodes j (List.getElem?_eq_some_iff.1 hj).1)
    have h2:=(hp.fns f hm).nodes.1.len
    omega)
  have HI : Kept (I64 p.g ∧ I64 p.l ∧ I64 p.s):=kp ⟨hp.g,hp.l,hp.s⟩
  have HE0 : Kept (pgC p = [.int .i64 p.g,.int .i64 p.l,.int .i64 p.s,.slice p.A n p.cap]):=kp (by unfold pgC;rw [hn])
  have HRec : Kept (Recs 1 fnR w B p.A n fns):=kp ⟨HL.out,fun h => by
    obtain ⟨ad,e,hb,hc⟩:=HRow.out.cells h
    refine ⟨ad,e,hb,fun k x hx j hj => ?_⟩
    have hj0 : j = 0:=by omega
    subst hj0
    have hk : k < n:=by rw [← HL.out];exact (List.getElem?_eq_some_iff.1 hx).1
    rw [Nat.mul_one,Nat.add_zero,hc k hk,hx];rfl⟩
  clear hp hf hfn hn
  rw [jI]
  go_enter Try.func53,Try.ntmps53
  go_wp2_with (first
    | ((with_reducible refine j2 rfl 24 (.tmp 0) rfl (pgC p) rfl ?_);intro gN w1 hgN0 hk1 hw1;have HK1:=kp hk1;have HW1:=kp hw1;have hs1:=hw1.size;have hl1:=hk1.lt;clear hk1 hw1)
    | ((with_reducible show Sl 2);go_must (refine j3 rfl 24 rfl _ pg_zero11 ?_);intro g2 w2 hg20 hk2 hw2
       have HK22:=kp hk2;have HK12:=kp (HK1.out.below hw2 hl1);have HW2:=kp (HW1.out.trans (hw2.mono hs1));have hs2:=HW2.out.size;have hl12:=HK12.out.lt;have hl2:=hk2.lt
       have hc0:=HK12.out.cell 3
       rw [HE0.out] at hc0
       have HRec2:=kp ((HRec.out.below (HW2.out.mono hB)).more (show B ≤ w2.heap.size by omega))
       clear hk2 hw2)
    | (go_at_call 74;fail))
  refine (YV p.A n p.cap fns w2 HRec2.out (by omega)).mono ?_
  rintro e w3 ⟨v3,rfl,hown3,hb3⟩
  obtain ⟨A3,c3,rfl,hl3,hm3,_⟩:=hown3.form
  rw [HL.out] at hown3 hl3 ⊢
  obtain ⟨gF,curT0,hA3,hbT3,hcT3,_,hgF3,_,_,_⟩:=hown3.blk h0
  subst hA3
  have HOw3:=kp (hown3.less (show w.heap.size ≤ w2.heap.size by omega));have hTl3:=hbT3.lt
  unfold maxLen at hm3
  have HNe : Kept (gF ≠ gN ∧ g2 ≠ gN ∧ gF ≠ g2 ∧ w.heap.size ≤ gN ∧ w.heap.size ≤ g2 ∧ w.heap.size ≤ gF):=kp (by omega)
  have HK13:=kp (HK12.out.below hb3 hl12);have HK23:=kp (HK22.out.below hb3 hl2);have HW3:=kp (HW2.out.trans (hb3.mono hs2));have hs3:=HW3.out.size;have hs23:=hb3.size
  have HGF : Kept (gF < w3.heap.size):=kp hTl3
  clear hown3 hb3 hc0 hbT3
  go_wp2_with (first
    | ((with_reducible show Sn);go_must (refine j6 rfl 22 (.tmp 7) (.tmp 6) rfl gN 3 (.slice (some ⟨gF,0,none⟩) n c3) rfl rfl rfl rfl _ _ HK13.out (by rw [HE0.out];show 3 < 4;decide) size1nn11 ?_);intro w4 hk4 hg4 hs4
       have HK4 : Kept (Blk w4 gN 24 (pgF p gF n c3)):=kp (by rw [HE0.out] at hk4;exact hk4)
       have HRow4:=kp (HOw3.out.far hg4 (.inr (fun e => by cases e;exact HNe.out.1 rfl)))
       have HK24:=kp (HK23.out.grown hg4 (fun e => by cases e;exact HNe.out.2.1 rfl))
       have HW4:=kp (HW3.out.grown hg4 HW3.out.size (fun k e => by cases e;exact HNe.out.2.2.2.1));have hs4':=HW4.out.size
       have HZ4 : Kept (w3.heap.size ≤ w4.heap.size):=kp (by omega)
       have hc0 : w4.cell? ⟨gN,3,none⟩ = some (.slice (some ⟨gF,0,none⟩) n c3):=HK4.out.cell 3
       clear hk4 hg4 hs4))
  go_loopw [11] (fun v11 wr => ∃ (i : Nat) (fns1 : List Fn),i ≤ n ∧ v11 = .int .i64 i ∧ fns1.length = i ∧ fns1.map (·.nodes) = (fns.take i).map (·.nodes) ∧ OwnR 1 fnR wr w.heap.size 56 (.slice (some ⟨gF,0,none⟩) n c3) (fns1 ++ fns.drop i) ∧
      FnsOwn wr w3.heap.size fns1 ∧ w3.heap.size ≤ wr.heap.size ∧ Blk wr gN 24 (pgF p gF n c3) ∧ Blk wr g2 24 [.int .i64 0,.int .i64 0,.int .i64 0,.slice none 0 0] ∧ Below w.heap.size w wr) (fun v11 _ => n - (intOf v11).toNat)
  case atStart => exact ⟨0,[],by omega,rfl,rfl,rfl,by simpa using HRow4.out,FnsOwn.nil _ _,HZ4.out,HK4.out,HK24.out,HW4.out⟩
  case round =>
    obtain ⟨i,fns1,hi,rfl,htl,htt,hrow,hfam,hsz3,hkN,hk2,hbl⟩:=hrel
    have HTl:=kp htl;have HTt:=kp htt;have HRow2:=kp hrow;have HFam:=kp hfam;have HK:=kp hkN;have HK2:=kp hk2;have HB:=kp hbl
    have hBs:=hbl.size
    have hgN:=hkN.lt;have hg2:=hk2.lt
    have hcN : wr.cell? ⟨gN,3,none⟩ = some (.slice (some ⟨gF,0,none⟩) n c3):=hkN.cell 3
    clear htl htt hrow hfam hkN hk2 hbl
    by_cases hlt : i < n
    · have hxi : fns[i]? = some (fns[i]'(by rw [HL.out];exact hlt)):=List.getElem?_eq_getElem _
      obtain ⟨x,hx⟩ : ∃ x,fns[i]'(by rw [HL.out];exact hlt) = x:=⟨_,rfl⟩
      rw [hx] at hxi
      have hxm:=List.mem_of_getElem? hxi
      have HX:=kp (HOk.out x hxm)
      have HXi:=kp hxi
      obtain ⟨gF2,curT,hAT,hbT,hcTl,hcTt,hBT,hnc,hcm,_⟩:=HRow2.out.blk h0
      have eT : gF = gF2:=by injection hAT with e;injection e
      subst eT
      have hk : (fns1 ++ fns.drop i)[i]? = some x:=by
        rw [List.getElem?_append_right (by rw [HTl.out];exact Nat.le_refl _),HTl.out,Nat.sub_self,List.getElem?_drop];exact hxi
      have hcx : curT[i]? = some (.slice x.A x.len x.cap):=by
        have h1:=lE 1 fnR (fns1 ++ fns.drop i) i 0 _ hk (by omega)
        rw [← hcTt,List.getElem?_take] at h1
        split at h1
        · rw [Nat.mul_one,Nat.add_zero] at h1;exact h1
        · cases h1
      have HC0:=kp hcx;have HT:=kp hbT
      have hgT:=hbT.lt
      have hTlen : i < curT.length:=by rw [hcTl];omega
      have hTN : gF ≠ gN:=HNe.out.1
      have hT2 : gF ≠ g2:=HNe.out.2.2.1
      have hx64:=HX.out.2
      have HXl : Kept (x.nodes.length = x.len):=kp HX.out.1.nodes.1.len
      have hxlc:=HX.out.1.lc;have hxcm:=HX.out.1.cm
      unfold maxLen at hxcm hcm
      clear hxi hx hxm hk hcx hbT hcTt hAT hcTl
      go_wp2
      apply jC 10 (.is _ :: .is _ :: .is _ :: .is _ :: .is _ :: .is _ :: .is _ :: .is _ :: Fact.nodesN w3.heap.size wr.heap.size x.nodes :: .is _ :: [])
        [[],[(0,14)],[],[],[(3,17)],[],[(4,18),(5,19)],[(6,20)],[(7,21)],[(1,15),(2,16)],[(9,23),(8,22)]]
        [(0,14),(1,15),(2,16),(3,17),(4,18),(5,19),(6,20),(7,21),(8,22),(9,23)] (by kernel_rfl) (by kernel_rfl) (by kernel_rfl) (by kernel_rfl) (by kernel_rfl)
      case hob =>
        refine ⟨?o0,?o1,?o2,?o3,?o4,?o5,?o6,?o7,?o8,?o9,trivial⟩
        case o0 => intro W hW;change wpList _ _ _ _ _ _;go_wp2;exact j0 rfl rfl rfl
        case o1 =>
          intro W hW;rintro _ rfl;change wpList _ _ _ _ _ _
          have hc : W.cell? ⟨gN,3,none⟩ = some (.slice (some ⟨gF,0,none⟩) n c3):=((HK.out.below hW hgN).cell 3)
          go_wp2;exact j0 rfl rfl rfl
        case o2 => intro W hW;change wpList _ _ _ _ _ _;go_wp2;exact j0 rfl rfl rfl
        case o3 => intro W hW;change wpList _ _ _ _ _ _;go_wp2;exact j0 rfl rfl rfl
        case o4 =>
          intro W hW;rintro _ rfl;change wpList _ _ _ _ _ _
          have hc : W.cell? ⟨gN,3,none⟩ = some (.slice (some ⟨gF,0,none⟩) n c3):=((HK.out.below hW hgN).cell 3)
          go_wp2;exact j0 rfl rfl rfl
        case o5 => intro W hW;change wpList _ _ _ _ _ _;go_wp2;exact j0 rfl rfl rfl
        case o6 => intro W hW;rintro _ rfl;rintro _ rfl;change wpList _ _ _ _ _ _;go_wp2;exact j0 rfl rfl rfl
        case o7 =>
          intro W hW;rintro _ rfl;change wpList _ _ _ _ _ _
          have hc:=(HT.out.below hW hgT).cell i
          rw [HC0.out] at hc
          go_wp2;exact j0 rfl rfl rfl
        case o8 =>
          intro W hW;rintro _ rfl;change wpList _ _ _ _ _ _
          have hWs:=hW.size
          have HRw:=kp ((HX.out.1.nodes.1.below ((HB.out.trans (hW.mono hBs)).mono hB)).more (show B ≤ W.heap.size by omega))
          clear hW
          go_wp2_with fail
          refine (YU x.A x.len x.cap x.nodes W HRw.out (by omega)).mono ?_
          rintro e w2 ⟨v5,rfl,hown5,hb5⟩
          have HOw5:=kp (hown5.less (show w3.heap.size ≤ W.heap.size by omega));have HB5:=kp hb5;have HBk:=kp hown5.block
          clear hown5 hb5
          go_wp2
          exact jB rfl rfl rfl HB5.out ⟨HOw5.out,fun b hb => Nat.le_trans hWs (HBk.out b hb).1⟩
        case o9 => intro W hW;rintro _ rfl;rintro _ rfl;change wpList _ _ _ _ _ _;go_wp2;exact j0 rfl rfl rfl
      case hend =>
        intro W hW;rintro _ rfl;rintro _ rfl;rintro _ rfl;rintro _ rfl;rintro _ rfl;rintro _ rfl;rintro _ rfl;rintro _ rfl;rintro v5 ⟨hown5,hk5⟩;rintro _ rfl
        simp only [given,jF,List.set,List.drop]
        obtain ⟨A5,c5,rfl,hl5,hm5,_⟩:=hown5.form
        rw [HXl.out] at hown5 hk5 hl5
        have HOw5:=kp hown5;have HK5:=kp hk5
        have HKw:=kp (HT.out.below hW hgT)
        have HNw:=kp (HK.out.below hW hgN)
        have HRw:=kp (HRow2.out.below hW (Nat.le_refl _))
        have HFw:=kp (HFam.out.below hW)
        have HK2w:=kp (HK2.out.below hW hg2)
        have HBw:=kp (HB.out.trans (hW.mono hBs))
        have hWs:=hW.size
        clear hW hown5 hk5 hl5
        rw [HXl.out]
        go_wp2_with (first
          | ((with_reducible show Sn);go_must (refine j6 rfl 56 (.tmp 23) (.tmp 22) rfl gF i (.slice A5 x.len c5) rfl rfl rfl rfl _ _ HKw.out hTlen size1n11 ?_);intro w7 hk7 hg7 hs7
             have HRow7:=kp (cp_fns (x':=⟨A5,x.len,c5,x.nodes⟩) HRw.out HXi.out HTl.out HKw.out hk7)
             have HFam7:=kp ((HFw.out.snoc (x:=⟨A5,x.len,c5,x.nodes⟩) HOw5.out HX.out.1.nodes.2).turn11 hg7 HGF.out)
             have HK7:=kp (HNw.out.grown hg7 (fun e => hTN (by cases e;rfl)))
             have HK27:=kp (HK2w.out.grown hg7 (fun e => hT2 (by cases e;rfl)))
             have HB7:=kp (HBw.out.grown hg7 (by omega) (fun k e => by cases e;exact hBT))
             have HZ7 : Kept (w3.heap.size ≤ w7.heap.size):=kp (by omega)
             clear hk7 hg7 hs7))
        go_roundw
        case rel => exact ⟨i + 1,fns1 ++ [⟨A5,x.len,c5,x.nodes⟩],by omega,by go_num,by rw [List.length_append,HTl.out];rfl,by rw [List.map_append,HTt.out,List.take_add_one,HXi.out,List.map_append];rfl,HRow7.out,HFam7.out,HZ7.out,HK7.out,HK27.out,HB7.out⟩
        case measure => simp [intOf];omega
    · have hie : i = n:=by omega
      have HRo : Kept (OwnR 1 fnR wr w.heap.size 56 (.slice (some ⟨gF,0,none⟩) n c3) fns1 ∧ fns1.map (·.nodes) = fns.map (·.nodes)):=kp (by
        have hd : fns.drop i = []:=List.drop_of_length_le (by rw [HL.out,hie];exact Nat.le_refl _)
        have h1:=HRow2.out
        rw [hd,List.append_nil] at h1
        have h2:=HTt.out
        rw [List.take_of_length_le (by rw [HL.out,hie];exact Nat.le_refl _)] at h2
        exact ⟨h1,h2⟩)
      have hge : n ≤ i:=by omega
      clear hlt hie
      go_wp2_with (first
        | ((with_reducible show Sl 25);go_must (refine j1 rfl 24 (.tmp 1) rfl gN rfl _ (pgF p gF n c3) _ HK.out Try.underlying24 rfl jD ?_))
        | ((with_reducible show Sn);go_must (refine j4 rfl 24 (.tmp 2) (.tmp 25) rfl g2 (pgF p gF n c3) rfl rfl _ _ HK2.out jD rfl (LV ⟨p.g,p.l,p.s,some ⟨gF,0,none⟩,n,c3,[]⟩) ?_);intro w8 hk8 hg8 hs8
           have HK8:=kp hk8
           have HRo8:=kp (HRo.out.1.far hg8 (.inr (fun e => by cases e;exact HNe.out.2.2.1 rfl)))
           have HFa8:=kp (FnsOwn.turn11 HFam.out hg8 (by omega))
           have HB8:=kp (HB.out.grown hg8 HB.out.size (fun k e => by cases e;exact HNe.out.2.2.2.2.1))
           clear hk8 hg8 hs8)
        | ((with_reducible show bodyPost _ _ _ _ _ _)
           refine bodyPost_ret (jK (P:=Try.prog) (fn:=Try.f53) rfl _ _ g2 24 _ _ rfl HK8.out Try.underlying24 rfl jD) rfl ⟨⟨p.g,p.l,p.s,some ⟨gF,0,none⟩,n,c3,fns1⟩,rfl,⟨rfl,rfl,rfl,HN.out.symm,by rw [HFn.out];exact HRo.out.2⟩,⟨HI.out.1,HI.out.2.1,HI.out.2.2,HRo8.out,HFa8.out.less11 (by omega),(fun h => by cases h)⟩,HB8.out⟩))
end Go.Proofs.Ytnaomfmmkhgbhaa
