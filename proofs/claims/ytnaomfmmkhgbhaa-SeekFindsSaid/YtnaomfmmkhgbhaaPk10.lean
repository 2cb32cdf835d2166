/- SemStep, SemStart, Want, SemPickIn, SemLaw1, Equal, Equal2, SemSame, SemSame2, SemLaw2, RaceMath, RaceTwo, SeekMath. -/
import Derived.Test.YtnaomfmmkhgbhaaSemPkA
import Derived.Test.YtnaomfmmkhgbhaaPk5
import Derived.Test.YtnaomfmmkhgbhaaPk9
import Derived.Test.YtnaomfmmkhgbhaaPk1
import Derived.BigFrame
import Derived.Laws.StructEq
import Derived.Test.YtnaomfmmkhgbhaaPk7
import Derived.Test.YtnaomfmmkhgbhaaPk8
import Derived.Test.YtnaomfmmkhgbhaaPk3
import Derived.Test.YtnaomfmmkhgbhaaPk6
namespace Go.Proofs.Ytnaomfmmkhgbhaa
open Go.RowKit
theorem vQ (B : Nat) (p : Pg) (hf : Fine p) (q : Pc) (w : World) (hp : p.Ok w B) (hq : q.Ok w B) (hg : M.Good p q.cf) (hB : B ≤ w.heap.size) (t : Int) (ht : I64 t) (way : Bool) :
    Calls Try.prog 17 #[pcA q,pgA p,.agg #[.int .i64 t,.bool way]] w fun e w' => ∃ q',e = .returned (pcA q') ∧ Mine w' w.heap.size q' ∧ q'.cf = M.step p q.cf t way ∧ Below w.heap.size w w':=by
  cases hen : M.enabled p q.cf t with
  | false => exact XB B p hf q w hp hq hg hB t ht way hen
  | true =>
    have h0:=(M.enabled_split hen).1
    obtain ⟨k,rfl⟩ : ∃ k : Nat,t = (k : Int):=⟨t.toNat,by omega⟩
    have henN : M.enabledN p q.cf k = true:=by have h:=(M.enabled_split hen).2;rwa [Int.toNat_natCast] at h
    have hlN:=M.enabled_lives henN
    obtain ⟨fn,hfn,_,_⟩:=M.node_is hg hlN
    have hfit:=(M.node_fit hf hg hlN hfn).kind
    obtain ⟨K,hK⟩ : ∃ K : Nat,(M.node p q.cf k).kind = (K : Int):=⟨(M.node p q.cf k).kind.toNat,by omega⟩
    obtain ⟨F,hF⟩ : ∃ F,deedL[K]? = some (fn9 F):=by
      obtain rfl | rfl | rfl | rfl | rfl | rfl | rfl | rfl | rfl | rfl : K = 0 ∨ K = 1 ∨ K = 2 ∨ K = 3 ∨ K = 4 ∨ K = 5 ∨ K = 6 ∨ K = 7 ∨ K = 8 ∨ K = 9:=by omega
      all_goals exact ⟨_,rfl⟩
    exact YM B p hf q w hp hq hg hB k ht way hen K F (by omega) hF hK
theorem Y7 : Try.prog.built 46 [] = some (Value.slice none 0 0 :: zeros 16).toArray:=by kernel_rfl
theorem LH (A : Option Addr) (n c : Nat) : ∀ u ∈ Value.slice A n c :: zeros 16,u.oneCell' = true:=by
  intro u hu
  rcases List.mem_cons.1 hu with rfl | hu
  · rfl
  · rw [List.eq_of_mem_replicate hu];rfl
def pcNone : Pc:=⟨none,0,0,[],List.replicate 16 0⟩
theorem QP : pcC pcNone = Value.slice none 0 0 :: zeros 16:=by unfold pcC pcNone;rw [X2]
theorem vL {P : Program} {ops : Array Oper} {rest : List Oper} {o : Oper} {a : Act} {w : World} {Q : Exit → Act → World → Prop} (hgd : Region.wanted o (yielded ops a.tmps) = true) (ty : TypeId) (x : Operand) (ho : o.op = .load ty x)
    (g : Nat) (hx : a.eval x = .pointer (some ⟨g,0,none⟩)) (t : TypeId) (cs : List Value) (d : TypeDesc) (hg : Blk w g t cs)
    (hu : P.underlying ty = some d) (hd : (match d with | .struct _ | .array _ _ => true | _ => false) = true) (hi : (P.info? ty).map (·.size) = some cs.length)
    (h : wpList P ops Q rest (a.put o.dst (.agg cs.toArray)) w) : wpList P ops Q (o :: rest) a w:=by
  exact BigFrame.wpList_want hgd fun _ hK => wp_load_row ty x ho g hx t cs.toArray (0,0) d hg hu hd (by simpa using hi) (hK _ _ h)
theorem q7 {P : Program} {ops : Array Oper} {rest : List Oper} {o : Oper} {a : Act} {w : World} {Q : Exit → Act → World → Prop} (hgd : Region.wanted o (yielded ops a.tmps) = true) (ty : TypeId) (x : Operand) (ho : o.op = .load ty x)
    (b c : Nat) (hx : a.eval x = .pointer (some ⟨b,c,none⟩)) (cs : List Value) (d : TypeDesc) (hc : w.rangeAt b c cs)
    (hu : P.underlying ty = some d) (hd : d.isRow = true) (hi : (P.info? ty).map (·.size) = some cs.length)
    (h : wpList P ops Q rest (a.put o.dst (.agg cs.toArray)) w) : wpList P ops Q (o :: rest) a w :=
  BigFrame.wpList_want hgd fun _ hK => wp_load_mid ty x ho b c hx cs d hc hu hd hi (hK _ _ h)
theorem jL {P : Program} {ops : Array Oper} {rest : List Oper} {o : Oper} {a : Act} {w : World} {Q : Exit → Act → World → Prop} (hgd : Region.wanted o (yielded ops a.tmps) = true) (ty : TypeId) (x : Operand) (ho : o.op = .load ty x)
    (ad : Addr) (hx : a.eval x = .pointer (some ad)) (cs : List Value) (d : TypeDesc) (hc : ∀ j v,cs[j]? = some v → w.cell? (ad.add j) = some v)
    (hu : P.underlying ty = some d) (hd : d.isRow = true) (hi : (P.info? ty).map (·.size) = some cs.length)
    (h : wpList P ops Q rest (a.put o.dst (.agg cs.toArray)) w) : wpList P ops Q (o :: rest) a w:=by
  refine BigFrame.wpList_want hgd fun K hK => ?_
  have hl : (loadCells ad cs.length).run P w = .ok cs.toArray w:=run_loadCells_list (P:=P) w ad cs hc
  have hrun : (loadVar ty ad).run P w = .ok (.agg cs.toArray) w:=by
    cases hq : P.info? ty with
    | none => simp [hq] at hi
    | some i =>
      have hs : i.size = cs.length:=by simpa [hq] using hi
      have hagg : (isAgg ty).run P w = .ok true w:=by
        unfold isAgg
        rw [Sem.run_bind,run_underlying hu w]
        cases d <;> simp_all
      simp [loadVar,Sem.run_bind,hagg,sizeOf,typeInfo,hq,hs,hl]
  unfold Oper.wp execOp
  simp only [ho,hx,Instr.loadAt,Instr.sureAddr,Sem.run_bind,Sem.run_pure,Result.andThen_ok,hrun]
  exact hK _ _ h
def pkV (x : Int × Bool) : Nat → Value
  | 0 => .int .i64 x.1
  | _ => .bool x.2
def Picks (w : World) (B : Nat) (A : Option Addr) (n : Nat) (l : List (Int × Bool)) : Prop:=Recs 2 pkV w B A n l ∧ ∀ x ∈ l,I64 x.1
theorem Picks.keep {w w' : World} {B : Nat} {A : Option Addr} {n : Nat} {l : List (Int × Bool)} (h : Picks w B A n l) (hk : ∀ p : Addr,p.block < B → w'.cell? p = w.cell? p) : Picks w' B A n l:=⟨h.1.keep hk,h.2⟩
def runTo (p : Pg) (l : List (Int × Bool)) (i : Nat) : M.Cf:=(l.take i).foldl (fun c x => M.step p c x.1 x.2) M.start
theorem YW (p : Pg) (l : List (Int × Bool)) : runTo p l 0 = M.start:=rfl
theorem JM (p : Pg) (l : List (Int × Bool)) (i : Nat) (x : Int × Bool) (hx : l[i]? = some x) : runTo p l (i + 1) = M.step p (runTo p l i) x.1 x.2:=by
  unfold runTo
  rw [List.take_add_one,hx,List.foldl_append];rfl
theorem qT {p : Pg} (hf : Fine p) (hl : p.fns.length = p.len) (l : List (Int × Bool)) : ∀ i,M.Good p (runTo p l i)
  | 0 => M.good_start hf
  | i + 1 => by
    cases hx : l[i]? with
    | some x => rw [JM p l i x hx];exact M.good_step hf hl (qT hf hl l i) _ _
    | none =>
      have h:=qT hf hl l i
      unfold runTo at h ⊢
      rw [List.take_add_one,hx,Option.toList,List.append_nil];exact h
theorem lD {p : Pg} {w : World} {B B' : Nat} (h : p.Ok w B) (hB : B ≤ B') : p.Ok w B':=⟨h.g,h.l,h.s,h.row.more hB,fun f hf => ⟨⟨(h.fns f hf).nodes.1.more hB,(h.fns f hf).nodes.2⟩,(h.fns f hf).lc,(h.fns f hf).cm,(h.fns f hf).nil⟩,h.lc,h.cm,h.nil⟩
theorem Q5 {P : Program} {w : World} {β : Type} (body : Nat → β → Sem (ForInStep β)) (s t : β) (f : Nat → Bool) : ∀ (l : List Nat) (b : Bool),l.all f = b → (∀ i ∈ l,(body i s).run P w = .ok (if f i then .yield s else .done t) w) → (forIn l s body).run P w = .ok (if b then s else t) w
  | [],b,hb,_ => by
    have : b = true:=by rw [← hb];rfl
    subst this
    simp
  | i :: r,b,hb,h => by
    rw [List.forIn_cons,Sem.run_bind,h i (by simp)]
    simp only [Result.andThen_ok]
    have hb2 : (f i && r.all f) = b:=by rw [← hb];rfl
    by_cases hf : f i = true
    · rw [if_pos hf]
      exact Q5 body s t f r b (by rw [← hb2,hf];rfl) fun j hj => h j (by simp [hj])
    · rw [if_neg hf]
      have : b = false:=by rw [← hb2,Bool.eq_false_iff.2 hf];rfl
      subst this
      simp
theorem all_range_eq (vs us : List Int) (n : Nat) (hv : vs.length = n) (hu : us.length = n) : ((List.range' 0 n).all fun i => vs.getD i 0 == us.getD i 0) = decide (vs = us):=by
  rw [Bool.eq_iff_iff,List.all_eq_true,decide_eq_true_eq]
  constructor
  · intro h
    apply List.ext_getElem (by omega)
    intro i h1 h2
    have:=h i (by simp;omega)
    rw [beq_iff_eq,List.getD_eq_getElem?_getD,List.getElem?_eq_getElem h1,List.getD_eq_getElem?_getD,List.getElem?_eq_getElem h2] at this
    exact this
  · rintro rfl i _
    simp
theorem zB {P : Program} (w : World) (d : Nat) (t e : TypeId) (n : Nat) (k k2 : IntKind) (ht : P.underlying t = some (.array n e)) (he : P.underlying e = some (.int k2)) (hsz : (P.info? e).map (·.size) = some 1) (vs us : List Int) (hl : vs.length = n) (hl2 : us.length = n) :
    (Op.equalIn (d + 2) t (.agg (vs.map (Value.int k)).toArray) (.agg (us.map (Value.int k)).toArray)).run P w = .ok (decide (vs = us)) w:=by
  have hagg : (isAgg e).run P w = .ok false w:=by
    unfold isAgg
    rw [Sem.run_bind,run_underlying he w];rfl
  cases hq : P.info? e with
  | none => simp [hq] at hsz
  | some ie =>
    have hs : ie.size = 1:=by simpa [hq] using hsz
    have hso : (sizeOf e).run P w = .ok 1 w:=by simp [sizeOf,typeInfo,hq,hs]
    unfold Op.equalIn
    simp only [Sem.run_bind,run_underlying ht w,Result.andThen_ok,hso,Std.Legacy.Range.forIn_eq_forIn_range']
    rw [Q5 _ _ (some false,PUnit.unit) (fun i => vs.getD i 0 == us.getD i 0) _ (decide (vs = us)) (by rw [← all_range_eq vs us n hl hl2];simp [Std.Legacy.Range.size])]
    · by_cases hvu : vs = us
      · rw [decide_eq_true hvu];rfl
      · rw [decide_eq_false hvu];rfl
    · intro i hi
      have hin : i < n:=by
        simp [Std.Legacy.Range.size] at hi
        omega
      have h1 : i < vs.length:=by omega
      have h2 : i < us.length:=by omega
      simp [part,hagg,h1,h2,run_equalIn_int w d e k k2 _ _ he]
      split <;> rfl
theorem yV {P : Program} {ops : Array Oper} {rest : List Oper} {o : Oper} {a : Act} {w : World} {Q : Exit → Act → World → Prop} (hgd : Region.wanted o (yielded ops a.tmps) = true) (t u : TypeId) (x y : Operand) (ho : o.op = .binOp .eql t x y u)
    (n : Nat) (e : TypeId) (k k2 : IntKind) (ht : P.underlying t = some (.array n e)) (he : P.underlying e = some (.int k2)) (hsz : (P.info? e).map (·.size) = some 1) (hm : P.eqGuardType P.depth t = false)
    (vs us : List Int) (hl : vs.length = n) (hl2 : us.length = n) (hx : a.eval x = .agg (vs.map (Value.int k)).toArray) (hy : a.eval y = .agg (us.map (Value.int k)).toArray) (b : Bool) (hb : decide (vs = us) = b) (h : wpList P ops Q rest (a.put o.dst (.bool b)) w) : wpList P ops Q (o :: rest) a w:=by
  refine BigFrame.wpList_want hgd fun K hK => ?_
  subst hb
  unfold Oper.wp execOp
  simp only [ho,hx,hy,Sem.run_bind,run_eqGuard_agg w .eql t x y _ _ hm,run_eql_struct w t _ _,zB w 9998 t e n k k2 ht he hsz vs us hl hl2,Result.andThen_ok,Sem.run_pure]
  exact hK _ _ h
theorem q5 {P : Program} {ops : Array Oper} {rest : List Oper} {o : Oper} {a : Act} {w : World} {Q : Exit → Act → World → Prop} (hgd : Region.wanted o (yielded ops a.tmps) = true) (t u : TypeId) (x y : Operand) (ho : o.op = .binOp .neq t x y u)
    (n : Nat) (e : TypeId) (k k2 : IntKind) (ht : P.underlying t = some (.array n e)) (he : P.underlying e = some (.int k2)) (hsz : (P.info? e).map (·.size) = some 1) (hm : P.eqGuardType P.depth t = false)
    (vs us : List Int) (hl : vs.length = n) (hl2 : us.length = n) (hx : a.eval x = .agg (vs.map (Value.int k)).toArray) (hy : a.eval y = .agg (us.map (Value.int k)).toArray) (b : Bool) (hb : (!decide (vs = us)) = b) (h : wpList P ops Q rest (a.put o.dst (.bool b)) w) : wpList P ops Q (o :: rest) a w:=by
  refine BigFrame.wpList_want hgd fun K hK => ?_
  subst hb
  unfold Oper.wp execOp
  simp only [ho,hx,hy,Sem.run_bind,run_eqGuard_agg w .neq t x y _ _ hm,run_neq_struct w t _ _,zB w 9998 t e n k k2 ht he hsz vs us hl hl2,Result.andThen_ok,Sem.run_pure]
  exact hK _ _ h
theorem xE {α : Type} {l l' : List α} {i : Nat} {x y : α} (h : l.take i = l'.take i) (hx : l[i]? = some x) (hy : l'[i]? = some y) : (l.take (i + 1) = l'.take (i + 1)) ↔ x = y:=by
  rw [List.take_add_one,List.take_add_one,hx,hy,h]
  simp
set_option maxRecDepth 100000 in
set_option maxHeartbeats 1600000 in
theorem YP (B : Nat) (x y : Sv) (w : World) (hx : x.Ok w B) (hy : y.Ok w B) (b : Bool) (hb : decide (x.stack = y.stack) = b) :
    Calls Try.prog 71 #[.slice x.A x.len x.cap,.slice y.A y.len y.cap] w fun e w' => e = .returned (.bool b) ∧ Below w.heap.size w w':=by
  have hxl:=hx.row.len;have hyl:=hy.row.len
  have HXl:=kp hxl;have HYl:=kp hyl;have HX:=kp hx;have HY:=kp hy;have HB:=kp hb
  have hxm:=hx.cm;have hxc:=hx.lc;have hym:=hy.cm;have hyc:=hy.lc
  unfold maxLen at hxm hym
  obtain ⟨n,hn⟩ : ∃ n,x.len = n:=⟨_,rfl⟩
  obtain ⟨m,hm⟩ : ∃ m,y.len = m:=⟨_,rfl⟩
  rw [hn] at HXl hxc ⊢
  rw [hm] at HYl hyc ⊢
  have HRx : Kept (Recs 2 frV w B x.A n x.stack):=kp (by rw [← hn];exact hx.row)
  have HRy : Kept (Recs 2 frV w B y.A m y.stack):=kp (by rw [← hm];exact hy.row)
  clear hx hy hb hxl hyl hn hm
  by_cases hnm : n = m
  · subst hnm
    go_enter Try.func71,Try.ntmps71
    go_wp2
    go_loopw [13] (fun v13 wr => ∃ i : Nat,i ≤ n ∧ v13 = .int .i64 i ∧ x.stack.take i = y.stack.take i ∧ Below w.heap.size w wr) (fun v13 _ => n - (intOf v13).toNat)
    case atStart => exact ⟨0,by omega,rfl,rfl,Below.refl _ _⟩
    case round =>
      obtain ⟨i,hi,rfl,htk,hbl⟩:=hrel
      have HTk:=kp htk;have HBl:=kp hbl
      clear htk hbl
      by_cases hlt : i < n
      · obtain ⟨ad,f,e1,_,hfx,hc0,hc1⟩:=HRx.out.field hlt
        obtain ⟨ad2,f2,e2,_,hfy,hd0,hd1⟩:=HRy.out.field hlt
        have hk : ∀ (A : Addr) (v : Value),w.cell? A = some v → wr.cell? A = some v:=fun A v h => (HBl.out.cell (xU h)).trans h
        have hc0':=hk _ _ (hc0 (by omega));have hc1':=hk _ _ (hc1 1 (by omega) (by omega))
        have hd0':=hk _ _ (hd0 (by omega));have hd1':=hk _ _ (hd1 1 (by omega) (by omega))
        have hE1 : x.A = some ad:=e1
        have hE2 : y.A = some ad2:=e2
        have HSn:=kp (xE HTk.out hfx hfy)
        have HNo : Kept (f ≠ f2 → false = b):=kp (fun h => by
          rw [← HB.out,decide_eq_false]
          intro e
          rw [e,hfy] at hfx
          exact h (Option.some.inj hfx).symm)
        obtain ⟨a1,a2⟩:=f
        obtain ⟨b1,b2⟩:=f2
        have hc0'' : wr.cell? (ad.add (i * 2)) = some (.int .i64 (a1 : Int)):=hc0'
        have hc1'' : wr.cell? ⟨(ad.add (i * 2)).block,(ad.add (i * 2)).off + 1,none⟩ = some (.int .i64 (a2 : Int)):=hc1'
        have hd0'' : wr.cell? (ad2.add (i * 2)) = some (.int .i64 (b1 : Int)):=hd0'
        have hd1'' : wr.cell? ⟨(ad2.add (i * 2)).block,(ad2.add (i * 2)).off + 1,none⟩ = some (.int .i64 (b2 : Int)):=hd1'
        rw [hE1,hE2]
        clear hk hc0 hc1 hd0 hd1 hc0' hc1' hd0' hd1' hfx hfy e1 e2 hE1 hE2
        by_cases h1 : a1 = b1
        · by_cases h2 : a2 = b2
          · subst h1 h2
            have HN:=kp (HSn.out.2 rfl)
            go_wp2
            go_quiet (fail)
            go_wp2
            go_roundw
            case rel => exact ⟨i + 1,by omega,by go_num,HN.out,below_drewN HBl.out _⟩
            case measure => simp [intOf];omega
          · have hbe2 : ((a2 : Int) == (b2 : Int)) = false:=by rw [beq_eq_false_iff_ne];omega
            have HE:=kp (HNo.out (fun e => h2 (congrArg Prod.snd e)))
            subst h1
            go_wp2
            go_quiet (fail)
            go_wp2
            go_ret
            exact ⟨jG HE.out,below_drewN HBl.out _⟩
        · have hbe1 : ((a1 : Int) == (b1 : Int)) = false:=by rw [beq_eq_false_iff_ne];omega
          have HE:=kp (HNo.out (fun e => h1 (congrArg Prod.fst e)))
          go_wp2
          go_quiet (fail)
          go_wp2
          go_ret
          exact ⟨jG HE.out,below_drewN HBl.out _⟩
      · have hge : n ≤ i:=by omega
        have HE : Kept (true = b):=kp (by
          rw [← HB.out,decide_eq_true]
          have h:=HTk.out
          rw [List.take_of_length_le (by rw [HXl.out];exact hge),List.take_of_length_le (by rw [HYl.out];exact hge)] at h
          exact h)
        clear hlt
        go_wp2
        go_ret
        exact ⟨jG HE.out,HBl.out⟩
  · have hne : ((n : Int) != (m : Int)) = true:=by rw [bne_iff_ne];omega
    have HE : Kept (false = b):=kp (by
      rw [← HB.out,decide_eq_false]
      intro e
      have h:=congrArg List.length e
      rw [HXl.out,HYl.out] at h
      exact hnm h)
    clear hnm
    go_enter Try.func71,Try.ntmps71
    go_wp2
    go_ret
    exact ⟨jG HE.out,Below.refl _ _⟩
theorem th_ext (a b : M.Th) : a = b ↔ a.slots = b.slots ∧ a.stack = b.stack:=by
  cases a;cases b;simp [and_comm]
theorem J6 (a b : List Nat) : decide (a.map (fun x : Nat => (x : Int)) = b.map (fun x : Nat => (x : Int))) = decide (a = b):=by
  rw [Bool.eq_iff_iff,decide_eq_true_eq,decide_eq_true_eq]
  constructor
  · intro h
    apply List.ext_getElem?
    intro i
    have h2:=congrArg (·[i]?) h
    simp only [List.getElem?_map] at h2
    cases ha : a[i]? <;> cases hb : b[i]? <;> simp [ha,hb] at h2 ⊢
    omega
  · rintro rfl;rfl
theorem lP (a : List Nat) : a.map natV = (a.map (fun x : Nat => (x : Int))).map (Value.int .i64):=by rw [List.map_map];rfl
def tvC (x : Tv) : List Value:=.slice x.sv.A x.sv.len x.sv.cap :: x.slots.map natV
theorem qA {x : Tv} (h : x.slots.length = 8) : (tvC x).length = 9:=by simp [tvC,h]
theorem LM : Try.prog.eqGuardType Try.prog.depth 92 = false:=by kernel_rfl
theorem xN : Try.prog.eqGuardType Try.prog.depth 44 = false:=by kernel_rfl
set_option maxRecDepth 100000 in
set_option maxHeartbeats 1600000 in
theorem JH (B : Nat) (x y : Tv) (w : World) (hx : x.sv.Ok w B) (hy : y.sv.Ok w B) (hx8 : x.slots.length = 8) (hy8 : y.slots.length = 8) (hB : B ≤ w.heap.size) (b : Bool) (hb : b = true ↔ tvT x = tvT y) :
    Calls Try.prog 41 #[.agg (tvC x).toArray,.agg (tvC y).toArray] w fun e w' => e = .returned (.bool b) ∧ Below w.heap.size w w':=by
  have HX:=kp hx;have HY:=kp hy
  have HX8:=kp hx8;have HY8:=kp hy8
  have HCx:=kp (qA hx8);have HCy:=kp (qA hy8)
  obtain ⟨b1,hb1⟩ : ∃ b1,decide (x.slots = y.slots) = b1:=⟨_,rfl⟩
  obtain ⟨b2,hb2⟩ : ∃ b2,decide (x.sv.stack = y.sv.stack) = b2:=⟨_,rfl⟩
  have HE : Kept ((b1 && b2) = b):=kp (by
    rw [← hb1,← hb2,Bool.eq_iff_iff,Bool.and_eq_true,decide_eq_true_eq,decide_eq_true_eq,hb,th_ext]
    exact Iff.rfl)
  have HB1 : Kept (decide (x.slots.map (fun n : Nat => (n : Int)) = y.slots.map (fun n : Nat => (n : Int))) = b1):=kp (by rw [J6,hb1])
  have HB2:=kp hb2
  have HLx : Kept ((x.slots.map (fun n : Nat => (n : Int))).length = 8):=kp (by rw [List.length_map];exact hx8)
  have HLy : Kept ((y.slots.map (fun n : Nat => (n : Int))).length = 8):=kp (by rw [List.length_map];exact hy8)
  clear hx hy hx8 hy8 hb1 hb2 hb
  cases b1
  all_goals
    go_enter Try.func41,Try.ntmps41
    go_wp2_with (first
      | ((with_reducible refine j2 rfl 94 (.tmp 0) rfl (tvC x) rfl ?_);intro g1 w1 hg1 hk1 hw1;have HK1:=kp hk1;have HW1:=kp hw1;have hs1:=hw1.size;have hl1:=hk1.lt;clear hk1 hw1)
      | ((with_reducible refine j2 rfl 94 (.tmp 1) rfl (tvC y) rfl ?_);intro g2 w2 hg2 hk2 hw2;have HK2:=kp hk2;have HK12:=kp (HK1.out.below hw2 hl1);have HW2:=kp (HW1.out.trans (hw2.mono hs1));have hs2:=HW2.out.size
         have hc1:=HK12.out.cell 0;have hc2:=HK2.out.cell 0
         simp only [tvC,List.getElem?_cons_zero] at hc1 hc2
         have HR1 : Kept (w2.rangeAt g1 1 (x.slots.map natV)):=kp (by have h:=HK12.out.range 1 8;unfold tvC at h;rw [List.drop_succ_cons,List.drop_zero,List.take_of_length_le (by rw [List.length_map,HX8.out];exact Nat.le_refl _)] at h;exact h)
         have HR2 : Kept (w2.rangeAt g2 1 (y.slots.map natV)):=kp (by have h:=HK2.out.range 1 8;unfold tvC at h;rw [List.drop_succ_cons,List.drop_zero,List.take_of_length_le (by rw [List.length_map,HY8.out];exact Nat.le_refl _)] at h;exact h)
         clear hk2 hw2)
      | ((with_reducible show Sl 6);go_must (refine wpList_load_mid rfl 92 (.tmp 5) rfl g1 1 rfl _ _ HR1.out Try.underlying92 rfl (by rw [List.length_map,HX8.out];exact lF) ?_))
      | ((with_reducible show Sl 8);go_must (refine wpList_load_mid rfl 92 (.tmp 7) rfl g2 1 rfl _ _ HR2.out Try.underlying92 rfl (by rw [List.length_map,HY8.out];exact lF) ?_))
      | ((with_reducible show Sl 9);go_must (refine yV rfl 92 _ (.tmp 6) (.tmp 8) rfl 8 3 .i64 .i64 Try.underlying92 Try.underlying3 l7 LM _ _ HLx.out HLy.out (by rw [← lP];rfl) (by rw [← lP];rfl) _ HB1.out ?_))
      | (go_at_call 71;go_must (refine (YP B x.sv y.sv w2 (HX.out.keep fun _ hp => HW2.out.cell (Nat.lt_of_lt_of_le hp hB)) (HY.out.keep fun _ hp => HW2.out.cell (Nat.lt_of_lt_of_le hp hB)) b2 HB2.out).mono ?_);rintro e w3 ⟨rfl,hb3⟩;have HW3:=kp (HW2.out.trans (hb3.mono hs2));clear hb3))
    go_ret
    first
      | exact ⟨jG HE.out,HW3.out⟩
      | exact ⟨jG HE.out,HW2.out⟩
theorem jM {P : Program} {ops : Array Oper} {rest : List Oper} {o : Oper} {a : Act} {w : World} {Q : Exit → Act → World → Prop} (hgd : o.guard = none) (ty : TypeId) (x : Operand) (ho : o.op = .load ty x)
    (ad : Addr) (hx : a.eval x = .pointer (some ad)) (cs : List Value) (d : TypeDesc) (hc : ∀ j v,cs[j]? = some v → w.cell? (ad.add j) = some v)
    (hu : P.underlying ty = some d) (hd : d.isRow = true) (hi : (P.info? ty).map (·.size) = some cs.length)
    (h : wpList P ops Q rest (a.put o.dst (.agg cs.toArray)) w) : wpList P ops Q (o :: rest) a w:=by
  refine wpList_plain hgd fun K hK => ?_
  have hl : (loadCells ad cs.length).run P w = .ok cs.toArray w:=run_loadCells_list (P:=P) w ad cs hc
  have hrun : (loadVar ty ad).run P w = .ok (.agg cs.toArray) w:=by
    cases hq : P.info? ty with
    | none => simp [hq] at hi
    | some i =>
      have hs : i.size = cs.length:=by simpa [hq] using hi
      have hagg : (isAgg ty).run P w = .ok true w:=by
        unfold isAgg
        rw [Sem.run_bind,run_underlying hu w]
        cases d <;> simp_all
      simp [loadVar,Sem.run_bind,hagg,sizeOf,typeInfo,hq,hs,hl]
  unfold Oper.wp execOp
  simp only [ho,hx,Instr.loadAt,Instr.sureAddr,Sem.run_bind,Sem.run_pure,Result.andThen_ok,hrun]
  exact hK _ _ h
theorem YD {x : Tv} (h8 : x.slots.length = 8) {j : Nat} {v : Value} (h : (tvC x)[j]? = some v) : j < 9 ∧ tvV x j = v:=by
  have hj : j < 9:=by have:=(List.getElem?_eq_some_iff.1 h).1;rw [qA h8] at this;exact this
  refine ⟨hj,?_⟩
  cases j with
  | zero =>
    simp only [tvC,List.getElem?_cons_zero,Option.some.injEq] at h
    exact h
  | succ j =>
    have hk : j < x.slots.length:=by omega
    rw [tvC,List.getElem?_cons_succ,List.getElem?_map,List.getElem?_eq_getElem hk] at h
    show Value.int .i64 ((x.slots.getD j 0 : Nat) : Int) = v
    rw [List.getD_eq_getElem?_getD,List.getElem?_eq_getElem hk]
    exact Option.some.inj h
theorem JF (x : Tv) : ∀ u ∈ tvC x,u.oneCell' = true:=by
  intro u hu
  rcases List.mem_cons.1 hu with rfl | hu
  · rfl
  · obtain ⟨y,_,rfl⟩:=List.mem_map.1 hu
    rfl
set_option maxRecDepth 100000 in
set_option maxHeartbeats 3200000 in
theorem YO (B : Nat) (q r : Pc) (w : World) (hq : q.Ok w B) (hr : r.Ok w B) (hB : B ≤ w.heap.size) (hq8 : ∀ x ∈ q.tvs,x.slots.length = 8) (hr8 : ∀ x ∈ r.tvs,x.slots.length = 8) (b : Bool) (hb : b = true ↔ q.tvs.map tvT = r.tvs.map tvT) :
    Calls Try.prog 40 #[.slice q.A q.len q.cap,.slice r.A r.len r.cap,.func (.func 41) #[] #[]] w fun e w' => e = .returned (.bool b) ∧ Below w.heap.size w w':=by
  have HQ8:=kp hq8;have HR8:=kp hr8;have HQ:=kp hq;have HR:=kp hr;have HB:=kp hb
  have hqm:=hq.cm;have hqc:=hq.lc;have hrm:=hr.cm;have hrc:=hr.lc
  unfold maxLen at hqm hrm
  obtain ⟨n,hn⟩ : ∃ n,q.len = n:=⟨_,rfl⟩
  obtain ⟨m,hm⟩ : ∃ m,r.len = m:=⟨_,rfl⟩
  have HQl : Kept (q.tvs.length = n):=kp (by rw [← hn];exact hq.row.len)
  have HRl : Kept (r.tvs.length = m):=kp (by rw [← hm];exact hr.row.len)
  have HQr : Kept (Recs 9 tvV w B q.A n q.tvs):=kp (by rw [← hn];exact hq.row)
  have HRr : Kept (Recs 9 tvV w B r.A m r.tvs):=kp (by rw [← hm];exact hr.row)
  rw [hn] at hqc ⊢
  rw [hm] at hrc ⊢
  clear hq hr hb hq8 hr8 hn hm
  by_cases hnm : n = m
  · subst hnm
    go_enter Try.func40,Try.ntmps40
    go_wp2
    go_loopw [17] (fun v17 wr => ∃ i : Nat,i ≤ n ∧ v17 = .int .i64 i ∧ (q.tvs.map tvT).take i = (r.tvs.map tvT).take i ∧ Below w.heap.size w wr) (fun v17 _ => n - (intOf v17).toNat)
    case atStart => exact ⟨0,by omega,rfl,rfl,Below.refl _ _⟩
    case round =>
      obtain ⟨i,hi,rfl,htk,hbl⟩:=hrel
      have HTk:=kp htk;have HBl:=kp hbl
      have hsw:=hbl.size
      clear htk hbl
      by_cases hlt : i < n
      · obtain ⟨ad,x,e1,had,hx,hc⟩:=HQr.out.get hlt
        obtain ⟨ad2,y,e2,had2,hy,hd⟩:=HRr.out.get hlt
        have hxm:=List.mem_of_getElem? hx;have hym:=List.mem_of_getElem? hy
        have HX8:=kp (HQ8.out x hxm);have HY8:=kp (HR8.out y hym)
        have HXo:=kp (HQ.out.svs x hxm);have HYo:=kp (HR.out.svs y hym)
        have hE1 : q.A = some ad:=e1
        have hE2 : r.A = some ad2:=e2
        have HSn:=kp (xE HTk.out (show (q.tvs.map tvT)[i]? = some (tvT x) by rw [List.getElem?_map,hx];rfl) (show (r.tvs.map tvT)[i]? = some (tvT y) by rw [List.getElem?_map,hy];rfl))
        have HNo : Kept (tvT x ≠ tvT y → false = b):=kp (fun h => by
          have h1 : ¬ (q.tvs.map tvT = r.tvs.map tvT):=fun e => by
            have h2:=congrArg (·[i]?) e
            simp only [List.getElem?_map,hx,hy,Option.map_some,Option.some.injEq] at h2
            exact h h2
          cases b
          · rfl
          · exact absurd (HB.out.1 rfl) h1)
        have HCx : Kept (∀ j v,(tvC x)[j]? = some v → wr.cell? ((ad.add (i * 9)).add j) = some v):=kp (fun j v h => by
          obtain ⟨hj,hv⟩:=YD HX8.out h
          rw [add_add,← hv]
          exact (HBl.out.cell (by rw [add_block];omega)).trans (hc j hj))
        have HCy : Kept (∀ (W : World),Below wr.heap.size wr W → ∀ j v,(tvC y)[j]? = some v → W.cell? ((ad2.add (i * 9)).add j) = some v):=kp (fun W hW j v h => by
          obtain ⟨hj,hv⟩:=YD HY8.out h
          rw [add_add,← hv]
          exact ((hW.cell (by rw [add_block];omega)).trans (HBl.out.cell (by rw [add_block];omega))).trans (hd j hj))
        rw [hE1,hE2]
        obtain ⟨b1,hb1⟩ : ∃ b1 : Bool,b1 = true ↔ tvT x = tvT y:=by
          by_cases h : tvT x = tvT y
          · exact ⟨true,by simp [h]⟩
          · exact ⟨false,by simp [h]⟩
        have HB1:=kp hb1
        clear hx hy hc hd e1 e2 hE1 hE2 hxm hym hb1
        cases b1
        all_goals
          go_wp2_with (first
            | ((with_reducible show Sl 21);go_must (refine jM rfl 94 (.tmp 20) rfl (ad.add (i * 9)) rfl (tvC x) _ HCx.out Try.underlying94 rfl (by rw [qA HX8.out];exact lI) ?_))
            | ((with_reducible show Sl 8);go_must (refine j3 rfl 94 rfl _ xY ?_);intro g1 w1 hg1 hk1 hw1;have HK1:=kp hk1;have HL1:=kp hw1;have hs1:=hw1.size;clear hk1 hw1)
            | ((with_reducible show Sn);(refine j4 rfl 94 (.tmp 8) (.tmp 21) rfl g1 (tvC x) rfl rfl _ _ HK1.out (by rw [qA HX8.out];exact lI) (by rw [qA HX8.out];rfl) (JF x) ?_);intro w2 hk2 hg2 hz2;have HK2:=kp hk2;have HL2:=kp (HL1.out.grown hg2 hs1 (fun k e => by cases e;exact hg1));have hs2:=HL2.out.size;have hl2:=hk2.lt;have HCy2:=kp (HCy.out w2 HL2.out);clear hk2 hg2 hz2)
            | ((with_reducible show Sl 25);go_must (refine jM rfl 94 (.tmp 24) rfl (ad2.add (i * 9)) rfl (tvC y) _ HCy2.out Try.underlying94 rfl (by rw [qA HY8.out];exact lI) ?_))
            | ((with_reducible show Sl 9);go_must (refine j3 rfl 94 rfl _ xY ?_);intro g3 w3 hg3 hk3 hw3;have HK3:=kp hk3;have HK23:=kp (HK2.out.below hw3 hl2);have HL3:=kp (HL2.out.trans (hw3.mono hs2));have hs3:=HL3.out.size;have hl23:=HK23.out.lt;clear hk3 hw3)
            | ((with_reducible show Sn);(refine j4 rfl 94 (.tmp 9) (.tmp 25) rfl g3 (tvC y) rfl rfl _ _ HK3.out (by rw [qA HY8.out];exact lI) (by rw [qA HY8.out];rfl) (JF y) ?_);intro w4 hk4 hg4 hz4;have HK4:=kp hk4;have HK24:=kp (HK23.out.grown hg4 (fun e => by cases e;omega));have HL4:=kp (HL3.out.grown hg4 hs3 (fun k e => by cases e;omega));have hs4:=HL4.out.size;clear hk4 hg4 hz4)
            | ((with_reducible show Sl 27);go_must (refine j1 rfl 94 (.tmp 8) rfl g1 rfl _ (tvC x) _ HK24.out Try.underlying94 rfl (by rw [qA HX8.out];exact lI) ?_))
            | ((with_reducible show Sl 28);go_must (refine j1 rfl 94 (.tmp 9) rfl g3 rfl _ (tvC y) _ HK4.out Try.underlying94 rfl (by rw [qA HY8.out];exact lI) ?_))
            | (go_at_call 41;go_must (refine (JH B x y w4 (HXo.out.keep fun _ hp => ((HBl.out.trans (HL4.out.mono hsw)).cell (Nat.lt_of_lt_of_le hp hB))) (HYo.out.keep fun _ hp => ((HBl.out.trans (HL4.out.mono hsw)).cell (Nat.lt_of_lt_of_le hp hB))) HX8.out HY8.out (by omega) _ HB1.out).mono ?_);rintro e w5 ⟨rfl,hb5⟩;have HW5:=kp ((HBl.out.trans (HL4.out.mono hsw)).trans (hb5.mono (by have:=(HBl.out.trans (HL4.out.mono hsw)).size;omega)));clear hb5))
        · have HE:=kp (HNo.out (fun e => absurd (HB1.out.2 e) (by decide)))
          go_ret
          exact ⟨jG HE.out,HW5.out⟩
        · have HN:=kp (HSn.out.2 (by first | exact HB1.out.1 rfl | exact HB1.out.1 trivial))
          go_roundw
          case rel => exact ⟨i + 1,by omega,by go_num,HN.out,HW5.out⟩
          case measure => simp [intOf];omega
      · have hge : n ≤ i:=by omega
        have HE : Kept (true = b):=kp (by
          have h:=HTk.out
          rw [List.take_of_length_le (by rw [List.length_map,HQl.out];exact hge),List.take_of_length_le (by rw [List.length_map,HRl.out];exact hge)] at h
          exact (HB.out.2 h).symm)
        clear hlt
        go_wp2
        go_ret
        exact ⟨jG HE.out,HBl.out⟩
  · have hne : ((n : Int) != (m : Int)) = true:=by rw [bne_iff_ne];omega
    have HE : Kept (false = b):=kp (by
      cases b
      · rfl
      · have h:=congrArg List.length (HB.out.1 rfl)
        rw [List.length_map,List.length_map,HQl.out,HRl.out] at h
        exact absurd h hnm)
    clear hnm
    go_enter Try.func40,Try.ntmps40
    go_wp2
    go_ret
    exact ⟨jG HE.out,Below.refl _ _⟩
set_option maxRecDepth 100000 in
set_option maxHeartbeats 1600000 in
theorem sem_same (B : Nat) (q r : Pc) (w : World) (hq : q.Ok w B) (hr : r.Ok w B) (hB : B ≤ w.heap.size) (hq8 : ∀ x ∈ q.tvs,x.slots.length = 8) (hr8 : ∀ x ∈ r.tvs,x.slots.length = 8) (hq16 : q.ow.length = 16) (hr16 : r.ow.length = 16) (b : Bool) (hb : b = true ↔ q.cf = r.cf) :
    Calls Try.prog 18 #[pcA q,pcA r] w fun e w' => e = .returned (.bool b) ∧ Below w.heap.size w w':=by
  have HQ:=kp hq;have HR:=kp hr;have HQ8:=kp hq8;have HR8:=kp hr8
  have HQ16:=kp hq16;have HR16:=kp hr16
  obtain ⟨b1,hb1⟩ : ∃ b1,decide (q.ow = r.ow) = b1:=⟨_,rfl⟩
  obtain ⟨b2,hb2⟩ : ∃ b2 : Bool,b2 = true ↔ q.tvs.map tvT = r.tvs.map tvT:=by
    by_cases h : q.tvs.map tvT = r.tvs.map tvT
    · exact ⟨true,by simp [h]⟩
    · exact ⟨false,by simp [h]⟩
  have HE : Kept ((b1 && b2) = b):=kp (by
    rw [← hb1,Bool.eq_iff_iff,Bool.and_eq_true,decide_eq_true_eq,hb2,hb]
    unfold Pc.cf
    constructor
    · rintro ⟨h1,h2⟩;rw [h1,h2]
    · intro h
      injection h with h1 h2
      exact ⟨h2,h1⟩)
  have HB1 : Kept (decide (q.ow.map (fun n : Nat => (n : Int)) = r.ow.map (fun n : Nat => (n : Int))) = b1):=kp (by rw [J6,hb1])
  have HB2:=kp hb2
  have HLx : Kept ((q.ow.map (fun n : Nat => (n : Int))).length = 16):=kp (by rw [List.length_map];exact hq16)
  have HLy : Kept ((r.ow.map (fun n : Nat => (n : Int))).length = 16):=kp (by rw [List.length_map];exact hr16)
  clear hq hr hq8 hr8 hq16 hr16 hb1 hb2 hb
  rw [qD,qD]
  cases b1
  all_goals
    go_enter Try.func18,Try.ntmps18
    go_wp2_with (first
      | ((with_reducible refine j2 rfl 46 (.tmp 0) rfl (pcC q) rfl ?_);intro g1 w1 hg1 hk1 hw1;have HK1:=kp hk1;have HW1:=kp hw1;have hs1:=hw1.size;have hl1:=hk1.lt;clear hk1 hw1)
      | ((with_reducible refine j2 rfl 46 (.tmp 1) rfl (pcC r) rfl ?_);intro g2 w2 hg2 hk2 hw2;have HK2:=kp hk2;have HK12:=kp (HK1.out.below hw2 hl1);have HW2:=kp (HW1.out.trans (hw2.mono hs1));have hs2:=HW2.out.size
         have hc1:=HK12.out.cell 0;have hc2:=HK2.out.cell 0
         simp only [pcC,List.getElem?_cons_zero] at hc1 hc2
         have HR1 : Kept (w2.rangeAt g1 1 (q.ow.map natV)):=kp (by have h:=HK12.out.range 1 16;unfold pcC at h;rw [List.drop_succ_cons,List.drop_zero,List.take_of_length_le (by rw [List.length_map,HQ16.out];exact Nat.le_refl _)] at h;exact h)
         have HR2 : Kept (w2.rangeAt g2 1 (r.ow.map natV)):=kp (by have h:=HK2.out.range 1 16;unfold pcC at h;rw [List.drop_succ_cons,List.drop_zero,List.take_of_length_le (by rw [List.length_map,HR16.out];exact Nat.le_refl _)] at h;exact h)
         clear hk2 hw2)
      | ((with_reducible show Sl 6);go_must (refine wpList_load_mid rfl 44 (.tmp 5) rfl g1 1 rfl _ _ HR1.out Try.underlying44 rfl (by rw [List.length_map,HQ16.out];exact qE) ?_))
      | ((with_reducible show Sl 8);go_must (refine wpList_load_mid rfl 44 (.tmp 7) rfl g2 1 rfl _ _ HR2.out Try.underlying44 rfl (by rw [List.length_map,HR16.out];exact qE) ?_))
      | ((with_reducible show Sl 9);go_must (refine yV rfl 44 _ (.tmp 6) (.tmp 8) rfl 16 3 .i64 .i64 Try.underlying44 Try.underlying3 l7 xN _ _ HLx.out HLy.out (by rw [← lP];rfl) (by rw [← lP];rfl) _ HB1.out ?_))
      | (go_at_call 40;go_must (refine (YO B q r w2 (HQ.out.keep fun _ hp => HW2.out.cell (Nat.lt_of_lt_of_le hp hB)) (HR.out.keep fun _ hp => HW2.out.cell (Nat.lt_of_lt_of_le hp hB)) (by omega) HQ8.out HR8.out b2 HB2.out).mono ?_);rintro e w3 ⟨rfl,hb3⟩;have HW3:=kp (HW2.out.trans (hb3.mono hs2));clear hb3))
    go_ret
    first
      | exact ⟨jG HE.out,HW3.out⟩
      | exact ⟨jG HE.out,HW2.out⟩
def Fact.stepped (K : Nat) (c : M.Cf) : Fact :=
  ⟨fun v W => ∃ q',v = pcA q' ∧ Mine W K q' ∧ q'.cf = c,fun _ _ _ hb ⟨q',h1,h2,h3⟩ => ⟨q',h1,h2.below hb (Nat.le_refl _),h3⟩⟩
theorem good_8s {p : Pg} {q : Pc} (h : M.Good p q.cf) : ∀ x ∈ q.tvs,x.slots.length = 8:=fun x hx => h.eight (tvT x) (List.mem_map_of_mem hx)
theorem OwnR.typed {α : Type} {sz : Nat} {f : α → Nat → Value} {w : World} {B b : Nat} {e t : TypeId} {v : Value} {l : List α} {cs : List Value} (h : OwnR sz f w B e v l) (hb : Blk w b t cs) (hne : e ≠ t) : v.ownBlock ≠ some b:=by
  intro hv
  rcases h.2 with ⟨rfl,_⟩ | ⟨g,cap,cur,rfl,_,hg,_⟩
  · cases hv
  · injection hv with hv
    have hv : g = b:=hv
    subst hv
    unfold Blk at hb
    rw [hg] at hb
    injection hb with hb
    injection hb with _ h2
    exact hne h2
theorem Mine.typed {w w' : World} {B g : Nat} {q : Pc} {cs : List Value} (h : Mine w B q) (hb : Blk w g 46 cs) (hg : w.grownBy w' (some g)) : Mine w' B q :=
  h.far hg (fun b hv e => h.row.typed hb (by decide) (by rw [hv,e])) (fun k y b hy hv e => (h.fam.own k y hy).typed hb (by decide) (by rw [hv,e]))
theorem Picks.pick {w : World} {B : Nat} {A : Option Addr} {n : Nat} {l : List (Int × Bool)} (h : Picks w B A n l) {i : Nat} (hi : i < n) :
    ∃ ad x,A = some ad ∧ ad.block < B ∧ l[i]? = some x ∧ I64 x.1 ∧ w.cell? (ad.add (i * 2)) = some (.int .i64 x.1) ∧ w.cell? ⟨(ad.add (i * 2)).block,(ad.add (i * 2)).off + 1,none⟩ = some (.bool x.2):=by
  obtain ⟨ad,x,hA,hb,hx,hc0,hc1⟩:=h.1.field hi
  exact ⟨ad,x,hA,hb,hx,h.2 x (List.mem_of_getElem? hx),hc0 (by omega),hc1 1 (by omega) (by omega)⟩
end Go.Proofs.Ytnaomfmmkhgbhaa
namespace Go.Proofs.Ytnaomfmmkhgbhaa.M
def acc (p : Pg) (c : Cf) (t : Int) : Int × Int :=
  if lives c t = true ∧ ((node p c t.toNat).kind = 1 ∨ (node p c t.toNat).kind = 2) then ((node p c t.toNat).arg,(node p c t.toNat).kind) else (0,0)
def pair (p : Pg) (c : Cf) (a b g : Int) : Bool:=decide (a ≠ b ∧ 0 < (acc p c a).2 ∧ 0 < (acc p c b).2 ∧ (acc p c a).1 = (acc p c b).1 ∧ (acc p c a).1 = g ∧ 2 < (acc p c a).2 + (acc p c b).2)
theorem acc_two (p : Pg) (c : Cf) (t : Int) : (acc p c t).2 = 0 ∨ (acc p c t).2 = 1 ∨ (acc p c t).2 = 2:=by
  unfold acc
  split
  · rename_i h
    exact .inr h.2
  · exact .inl rfl
theorem pair_is {p : Pg} {c : Cf} {a b g : Int} : pair p c a b g = true ↔ (a ≠ b ∧ 0 < (acc p c a).2 ∧ 0 < (acc p c b).2 ∧ (acc p c a).1 = (acc p c b).1 ∧ (acc p c a).1 = g ∧ 2 < (acc p c a).2 + (acc p c b).2):=by unfold pair;rw [decide_eq_true_eq]
def NoPair (p : Pg) (c : Cf) (a b : Nat) : Prop:=pair p c (a : Int) (b : Int) (acc p c (a : Int)).1 = false
def FirstIs (p : Pg) (c : Cf) (x y z h : Int) : Prop :=
  (h = 1 ∧ ∃ a b : Nat,x = a ∧ y = b ∧ z = (acc p c (a : Int)).1 ∧ a < b ∧ b < c.ths.length ∧ ¬ NoPair p c a b ∧ ∀ a' b',a' < b' → b' < c.ths.length → (a' < a ∨ a' = a ∧ b' < b) → NoPair p c a' b') ∨
  (h = 0 ∧ x = 0 ∧ y = 0 ∧ z = 0 ∧ ∀ a' b',a' < b' → b' < c.ths.length → NoPair p c a' b')
theorem first_one {p : Pg} {c : Cf} {x y z h x' y' z' h' : Int} (h1 : FirstIs p c x y z h) (h2 : FirstIs p c x' y' z' h') : x = x' ∧ y = y' ∧ z = z' ∧ h = h':=by
  rcases h1 with ⟨e1,a,b,ea,eb,ez,hab,hbn,hp,hm⟩ | ⟨e1,ex,ey,ez,hn⟩
  · rcases h2 with ⟨e2,a',b',ea',eb',ez',hab',hbn',hp',hm'⟩ | ⟨e2,_,_,_,hn'⟩
    · have h3 : a = a' ∧ b = b':=by
        rcases Nat.lt_trichotomy a a' with h | h | h
        · exact absurd (hm' a b hab hbn (.inl h)) hp
        · rcases Nat.lt_trichotomy b b' with g | g | g
          · exact absurd (hm' a b hab hbn (.inr ⟨h,g⟩)) hp
          · exact ⟨h,g⟩
          · exact absurd (hm a' b' hab' hbn' (.inr ⟨h.symm,g⟩)) hp'
        · exact absurd (hm a' b' hab' hbn' (.inl h)) hp'
      obtain ⟨rfl,rfl⟩:=h3
      exact ⟨by rw [ea,ea'],by rw [eb,eb'],by rw [ez,ez'],by rw [e1,e2]⟩
    · exact absurd (hn' a b hab hbn) hp
  · rcases h2 with ⟨_,a',b',_,_,_,hab',hbn',hp',_⟩ | ⟨e2,ex',ey',ez',_⟩
    · exact absurd (hn a' b' hab' hbn') hp'
    · exact ⟨by rw [ex,ex'],by rw [ey,ey'],by rw [ez,ez'],by rw [e1,e2]⟩
end Go.Proofs.Ytnaomfmmkhgbhaa.M
namespace Go.Proofs.Ytnaomfmmkhgbhaa
open Go.RowKit
def ndsA : List Nd:=[⟨5,1,1,0⟩,⟨2,0,2,0⟩,⟨9,0,0,0⟩]
def ndsB : List Nd:=[⟨2,0,1,0⟩,⟨9,0,0,0⟩]
def pgTwo (f : Nat) : Pg:=⟨1,0,1,some ⟨f + 2,0,none⟩,2,2,[⟨some ⟨f,0,none⟩,3,3,ndsA⟩,⟨some ⟨f + 1,0,none⟩,2,2,ndsB⟩]⟩
theorem YC {f : Nat} {x : Fn} (h : x ∈ (pgTwo f).fns) : x = ⟨some ⟨f,0,none⟩,3,3,ndsA⟩ ∨ x = ⟨some ⟨f + 1,0,none⟩,2,2,ndsB⟩:=by simpa [pgTwo] using h
theorem nds_a {x : Nd} (h : x ∈ ndsA) : x = ⟨5,1,1,0⟩ ∨ x = ⟨2,0,2,0⟩ ∨ x = ⟨9,0,0,0⟩:=by simpa [ndsA] using h
theorem nds_b {x : Nd} (h : x ∈ ndsB) : x = ⟨2,0,1,0⟩ ∨ x = ⟨9,0,0,0⟩:=by simpa [ndsB] using h
theorem JP {α : Type} {sz : Nat} {f : α → Nat → Value} {w : World} {g : Nat} {e : TypeId} {l : List α} (h : Blk w g e (cellsR sz f l)) (hm : l.length ≤ maxLen) : Recs sz f w w.heap.size (some ⟨g,0,none⟩) l.length l :=
  (OwnR.of_blk (B:=0) (n:=l.length) (cap:=l.length) h (Nat.zero_le _) rfl (Nat.le_refl _) hm (lU sz f l) (by rw [List.take_of_length_le (by rw [lU];exact Nat.le_refl _)])).recs
theorem yK (k a n b : Nat) (h : k < 100 ∧ a < 100 ∧ n < 100 ∧ b < 100) : Nd.Ok ⟨k,a,n,b⟩:=by
  constructor <;> (unfold I64;simp only;omega)
theorem pgTwo_ok (w : World) (f : Nat) (h1 : Blk w f 55 [.int .i64 5,.int .i64 1,.int .i64 1,.int .i64 0,.int .i64 2,.int .i64 0,.int .i64 2,.int .i64 0,.int .i64 9,.int .i64 0,.int .i64 0,.int .i64 0])
    (h2 : Blk w (f + 1) 55 [.int .i64 2,.int .i64 0,.int .i64 1,.int .i64 0,.int .i64 9,.int .i64 0,.int .i64 0,.int .i64 0]) (h3 : Blk w (f + 2) 56 [.slice (some ⟨f,0,none⟩) 3 3,.slice (some ⟨f + 1,0,none⟩) 2 2]) : (pgTwo f).Ok w w.heap.size:=by
  refine ⟨by unfold I64;simp [pgTwo],by unfold I64;simp [pgTwo],by unfold I64;simp [pgTwo],?_,?_,Nat.le_refl _,by simp [pgTwo,maxLen],fun h => by cases h⟩
  · exact Blk.row (f:=fnV) (l:=(pgTwo f).fns) h3 rfl (Nat.le_refl _)
  · intro x hx
    rcases YC hx with rfl | rfl
    · refine ⟨⟨JP (l:=ndsA) h1 (by simp [maxLen,ndsA]),fun y hy => ?_⟩,Nat.le_refl _,by simp [maxLen],fun h => by cases h⟩
      rcases nds_a hy with rfl | rfl | rfl
      · exact yK 5 1 1 0 (by omega)
      · exact yK 2 0 2 0 (by omega)
      · exact yK 9 0 0 0 (by omega)
    · refine ⟨⟨JP (l:=ndsB) h2 (by simp [maxLen,ndsB]),fun y hy => ?_⟩,Nat.le_refl _,by simp [maxLen],fun h => by cases h⟩
      rcases nds_b hy with rfl | rfl
      · exact yK 2 0 1 0 (by omega)
      · exact yK 9 0 0 0 (by omega)
theorem check_two (f : Nat) : Q.check (pgTwo f) = (0,0,0):=by
  refine Q.check_fine (by constructor <;> simp [pgTwo]) ?_ ?_
  · rintro j hj ⟨fn,hfn,hb⟩
    refine hb ?_
    rcases YC (List.mem_of_getElem? hfn) with rfl | rfl
    · rw [Q.fault_none _ _ (by simp [ndsA]) (by simp [ndsA]) ?_]
      rintro i hi ⟨nd,hnd,hm⟩
      have hm' : Q.may 1 0 1 2 nd 3 = false:=hm
      rcases nds_a (List.mem_of_getElem? hnd) with rfl | rfl | rfl
      · exact absurd hm' (by decide)
      · exact absurd hm' (by decide)
      · exact absurd hm' (by decide)
    · rw [Q.fault_none _ _ (by simp [ndsB]) (by simp [ndsB]) ?_]
      rintro i hi ⟨nd,hnd,hm⟩
      have hm' : Q.may 1 0 1 2 nd 2 = false:=hm
      rcases nds_b (List.mem_of_getElem? hnd) with rfl | rfl
      · exact absurd hm' (by decide)
      · exact absurd hm' (by decide)
  · rintro j hj ⟨i,fn,nd,hfn,hnd,h7,_⟩
    rcases YC (List.mem_of_getElem? hfn) with rfl | rfl
    · rcases nds_a (List.mem_of_getElem? hnd) with rfl | rfl | rfl <;> cases h7
    · rcases nds_b (List.mem_of_getElem? hnd) with rfl | rfl <;> cases h7
def cfTwo : M.Cf:=⟨[⟨[(0,1)],(List.replicate 8 0).set 0 2⟩,⟨[(1,0)],List.replicate 8 0⟩],List.replicate 16 0⟩
theorem two_then (f : Nat) : M.FirstIs (pgTwo f) cfTwo 0 1 0 1:=by
  have e2 : cfTwo.ths.length = 2:=rfl
  refine .inl ⟨rfl,0,1,rfl,rfl,rfl,by omega,by omega,fun h => ?_,fun a b hab hb hl => by omega⟩
  unfold M.NoPair at h
  have h2 : M.pair (pgTwo f) cfTwo ((0 : Nat) : Int) ((1 : Nat) : Int) (M.acc (pgTwo f) cfTwo ((0 : Nat) : Int)).1 = true:=by
    rw [M.pair_is]
    have a0 : M.acc (pgTwo f) cfTwo ((0 : Nat) : Int) = (0,2):=by rfl
    have a1 : M.acc (pgTwo f) cfTwo ((1 : Nat) : Int) = (0,2):=by rfl
    rw [a0,a1]
    decide
  rw [h] at h2
  exact absurd h2 (by decide)
end Go.Proofs.Ytnaomfmmkhgbhaa
namespace Go.Proofs.Ytnaomfmmkhgbhaa.K
instance : DecidableEq M.Th:=fun a b => decidable_of_iff (a.stack = b.stack ∧ a.slots = b.slots) (by cases a;cases b;simp)
instance : DecidableEq M.Cf:=fun a b => decidable_of_iff (a.ths = b.ths ∧ a.owners = b.owners) (by cases a;cases b;simp)
def Racy (p : Pg) (c : M.Cf) : Prop:=∃ x y z,M.FirstIs p c x y z 1
theorem racy_of {p : Pg} {c : M.Cf} {x y z h : Int} (hf : M.FirstIs p c x y z h) : h = 1 ↔ Racy p c :=
  ⟨fun e => ⟨x,y,z,e ▸ hf⟩,fun ⟨_,_,_,h'⟩ => (M.first_one hf h').2.2.2⟩
structure En where
  cf : M.Cf
  src : Nat
  who : Nat
  way : Bool
  path : List (Int × Bool)
instance : Inhabited En:=⟨⟨⟨[],[]⟩,0,0,false,[]⟩⟩
structure Sk where
  all : List En
  left : Bool
def has (l : List En) (c : M.Cf) : Bool:=l.any fun e => decide (e.cf = c)
theorem qQ {l : List En} {c : M.Cf} : has l c = true ↔ ∃ e ∈ l,e.cf = c:=by unfold has;simp
def put (most : Int) (s : Sk) (e : En) : Sk:=if has s.all e.cf = true then s else if most ≤ (s.all.length : Int) then ⟨s.all,true⟩ else ⟨s.all ++ [e],s.left⟩
def next (p : Pg) (i : Nat) (e : En) (t : Nat) (way : Bool) : En:=⟨M.step p e.cf t way,i,t,way,e.path ++ [((t : Int),way)]⟩
def one (p : Pg) (most : Int) (i : Nat) (e : En) (s : Sk) (t : Nat) : Sk :=
  if M.enabledN p e.cf t = true then (if (M.node p e.cf t).kind = 8 then put most (put most s (next p i e t false)) (next p i e t true) else put most s (next p i e t false)) else s
def thrs (p : Pg) (most : Int) (i : Nat) (e : En) (s : Sk) : Nat → Sk
  | 0 => s
  | k + 1 => one p most i e (thrs p most i e s k) k
def goOn (p : Pg) (most : Int) (i : Nat) (e : En) (s : Sk) : Sk:=thrs p most i e s e.cf.ths.length
def begin (most : Int) : Sk:=put most ⟨[],false⟩ ⟨M.start,0,0,false,[]⟩
def st (p : Pg) (most : Int) : Nat → Sk
  | 0 => begin most
  | k + 1 => goOn p most k ((st p most k).all.getD k default) (st p most k)
def en (p : Pg) (most : Int) (k : Nat) : En:=(st p most k).all.getD k default
theorem st_succ (p : Pg) (most : Int) (k : Nat) : st p most (k + 1) = goOn p most k (en p most k) (st p most k):=rfl
def Out (p : Pg) (most : Int) (l : List (Int × Bool)) (is : Nat) : Prop :=
  ∃ k,(∀ j,j < k → j < (st p most j).all.length ∧ ¬ Racy p (en p most j).cf) ∧
    ((k < (st p most k).all.length ∧ Racy p (en p most k).cf ∧ l = (en p most k).path ∧ is = 1) ∨
     ((st p most k).all.length ≤ k ∧ l = [] ∧ is = if (st p most k).left = true then 0 else 2))
theorem out_one {p : Pg} {most : Int} {l l' : List (Int × Bool)} {is is' : Nat} (h : Out p most l is) (h' : Out p most l' is') : l = l' ∧ is = is':=by
  obtain ⟨k,h1,h2⟩:=h
  obtain ⟨k',h1',h2'⟩:=h'
  have key : ∀ {k k' : Nat} {l : List (Int × Bool)} {is : Nat},k < k' → (∀ j,j < k' → j < (st p most j).all.length ∧ ¬ Racy p (en p most j).cf) →
      ((k < (st p most k).all.length ∧ Racy p (en p most k).cf ∧ l = (en p most k).path ∧ is = 1) ∨ ((st p most k).all.length ≤ k ∧ l = [] ∧ is = if (st p most k).left = true then 0 else 2)) → False:=by
    intro k k' l is hlt ha hb
    obtain ⟨a1,a2⟩:=ha k hlt
    rcases hb with ⟨_,b,_⟩ | ⟨b,_⟩
    · exact a2 b
    · omega
  rcases Nat.lt_trichotomy k k' with h | h | h
  · exact (key h h1' h2).elim
  · subst h
    rcases h2 with ⟨a1,a2,a3,a4⟩ | ⟨a1,a3,a4⟩ <;> rcases h2' with ⟨b1,b2,b3,b4⟩ | ⟨b1,b3,b4⟩
    · exact ⟨by rw [a3,b3],by rw [a4,b4]⟩
    · omega
    · omega
    · exact ⟨by rw [a3,b3],by rw [a4,b4]⟩
  · exact (key h h1 h2').elim
/-! ### what one put does -/
theorem vW (most : Int) (s : Sk) (e : En) : (put most s e).all = s.all ∨ ((put most s e).all = s.all ++ [e] ∧ has s.all e.cf = false ∧ (s.all.length : Int) < most ∧ (put most s e).left = s.left):=by
  unfold put
  by_cases h : has s.all e.cf = true
  · rw [if_pos h];exact .inl rfl
  · rw [if_neg h]
    by_cases h2 : most ≤ (s.all.length : Int)
    · rw [if_pos h2];exact .inl rfl
    · rw [if_neg h2];exact .inr ⟨rfl,by simpa using h,by omega,rfl⟩
theorem vV (most : Int) (s : Sk) (e : En) (h : s.left = true) : (put most s e).left = true:=by
  unfold put
  split
  · exact h
  · split
    · rfl
    · exact h
theorem put_in (most : Int) (s : Sk) (e : En) : has (put most s e).all e.cf = true ∨ ((put most s e).left = true ∧ most ≤ (s.all.length : Int)):=by
  unfold put
  by_cases h : has s.all e.cf = true
  · rw [if_pos h];exact .inl h
  · rw [if_neg h]
    by_cases h2 : most ≤ (s.all.length : Int)
    · rw [if_pos h2];exact .inr ⟨rfl,h2⟩
    · rw [if_neg h2];exact .inl (qQ.2 ⟨e,by simp,rfl⟩)
theorem uJ {p : Pg} {most : Int} {i : Nat} {e : En} (R : Sk → Prop) (h : ∀ s t way,M.enabledN p e.cf t = true → (way = true → (M.node p e.cf t).kind = 8) → R s → R (put most s (next p i e t way))) {s : Sk} (t : Nat) (hs : R s) : R (one p most i e s t):=by
  unfold one
  by_cases h1 : M.enabledN p e.cf t = true
  · rw [if_pos h1]
    by_cases h2 : (M.node p e.cf t).kind = 8
    · rw [if_pos h2]
      exact h _ t true h1 (fun _ => h2) (h _ t false h1 (fun x => by cases x) hs)
    · rw [if_neg h2]
      exact h _ t false h1 (fun x => by cases x) hs
  · rw [if_neg h1];exact hs
theorem zX {p : Pg} {most : Int} {i : Nat} {e : En} (R : Sk → Prop) (h : ∀ s t way,M.enabledN p e.cf t = true → (way = true → (M.node p e.cf t).kind = 8) → R s → R (put most s (next p i e t way))) {s : Sk} (hs : R s) : ∀ n,R (thrs p most i e s n)
  | 0 => hs
  | n + 1 => uJ R h n (zX R h hs n)
theorem yS {p : Pg} {most : Int} {i : Nat} {e : En} (R : Sk → Prop) (h : ∀ s t way,M.enabledN p e.cf t = true → (way = true → (M.node p e.cf t).kind = 8) → R s → R (put most s (next p i e t way))) {s : Sk} (hs : R s) : R (goOn p most i e s):=zX R h hs _
/-! ### the list grows at its end -/
def Pre (a b : List En) : Prop:=∃ c,b = a ++ c
theorem Pre.refl (a : List En) : Pre a a:=⟨[],by simp⟩
theorem Pre.trans {a b c : List En} (h : Pre a b) (k : Pre b c) : Pre a c:=by
  obtain ⟨x,rfl⟩:=h;obtain ⟨y,rfl⟩:=k
  exact ⟨x ++ y,by rw [List.append_assoc]⟩
theorem Pre.get {a b : List En} (h : Pre a b) {i : Nat} {e : En} (he : a[i]? = some e) : b[i]? = some e:=by
  obtain ⟨c,rfl⟩:=h
  rw [List.getElem?_append_left (List.getElem?_eq_some_iff.1 he).1];exact he
theorem Pre.len {a b : List En} (h : Pre a b) : a.length ≤ b.length:=by obtain ⟨c,rfl⟩:=h;simp
theorem Pre.has {a b : List En} (h : Pre a b) {c : M.Cf} (hc : K.has a c = true) : K.has b c = true:=by
  obtain ⟨x,rfl⟩:=h
  obtain ⟨e,h1,h2⟩:=qQ.1 hc
  exact qQ.2 ⟨e,List.mem_append.2 (.inl h1),h2⟩
theorem put_pre (most : Int) (s : Sk) (e : En) : Pre s.all (put most s e).all:=by
  rcases vW most s e with h | ⟨h,_⟩
  · rw [h];exact Pre.refl _
  · exact ⟨[e],h⟩
theorem one_pre (p : Pg) (most : Int) (i : Nat) (e : En) (s : Sk) (t : Nat) : Pre s.all (one p most i e s t).all :=
  uJ (fun x => Pre s.all x.all) (fun _ _ _ _ _ h => h.trans (put_pre _ _ _)) t (Pre.refl _)
theorem X7 (p : Pg) (most : Int) (i : Nat) (e : En) (s : Sk) (n m : Nat) (h : n ≤ m) : Pre (thrs p most i e s n).all (thrs p most i e s m).all:=by
  induction m with
  | zero => have : n = 0:=by omega
            subst this;exact Pre.refl _
  | succ m ih =>
    by_cases e1 : n = m + 1
    · subst e1;exact Pre.refl _
    · exact (ih (by omega)).trans (one_pre _ _ _ _ _ _)
theorem Y0 (p : Pg) (most : Int) (i : Nat) (e : En) (s : Sk) : Pre s.all (goOn p most i e s).all:=X7 p most i e s 0 _ (Nat.zero_le _)
theorem st_pre (p : Pg) (most : Int) {a b : Nat} (h : a ≤ b) : Pre (st p most a).all (st p most b).all:=by
  induction b with
  | zero => have : a = 0:=by omega
            subst this;exact Pre.refl _
  | succ b ih =>
    by_cases e1 : a = b + 1
    · subst e1;exact Pre.refl _
    · exact (ih (by omega)).trans (Y0 _ _ _ _ _)
theorem en_at {p : Pg} {most : Int} {k : Nat} (h : k < (st p most k).all.length) : (st p most k).all[k]? = some (en p most k):=by
  unfold en
  rw [List.getD_eq_getElem?_getD,List.getElem?_eq_getElem h];rfl
theorem Q7 {p : Pg} {most : Int} {j k : Nat} {e : En} (h : (st p most j).all[k]? = some e) (hk : k < (st p most k).all.length) : en p most k = e:=by
  have h1:=en_at hk
  rcases Nat.le_total j k with h2 | h2
  · exact Option.some.inj (h1.symm.trans ((st_pre p most h2).get h))
  · exact Option.some.inj (((st_pre p most h2).get h1).symm.trans h)
theorem LB (p : Pg) (most : Int) {a b : Nat} (h : a ≤ b) (hl : (st p most a).left = true) : (st p most b).left = true:=by
  induction b with
  | zero => have : a = 0:=by omega
            subst this;exact hl
  | succ b ih =>
    by_cases e1 : a = b + 1
    · subst e1;exact hl
    · exact yS (fun x => x.left = true) (fun _ _ _ _ _ hx => vV _ _ _ hx) (ih (by omega))
/-! ### what is so of all in the list -/
def From (p : Pg) (l : List En) (i : Nat) (e : En) : Prop :=
  (i = 0 ∧ e.cf = M.start ∧ e.path = [] ∧ e.src = 0) ∨ (0 < i ∧ e.src < i ∧ ∃ f,l[e.src]? = some f ∧ M.enabledN p f.cf e.who = true ∧ e.cf = M.step p f.cf (e.who : Int) e.way ∧ e.path = f.path ++ [((e.who : Int),e.way)])
structure Inv (p : Pg) (most : Int) (s : Sk) : Prop where
  good : ∀ e ∈ s.all,M.Good p e.cf
  len : (s.all.length : Int) ≤ most ∨ s.all = []
  apart : ∀ (i j : Nat) (e f : En),s.all[i]? = some e → s.all[j]? = some f → e.cf = f.cf → i = j
  src : ∀ (i : Nat) (e : En),s.all[i]? = some e → From p s.all i e
theorem From.pre {p : Pg} {a b : List En} (h : Pre a b) {i : Nat} {e : En} (hf : From p a i e) : From p b i e:=by
  rcases hf with h1 | ⟨h1,h2,f,h3,h4⟩
  · exact .inl h1
  · exact .inr ⟨h1,h2,f,h.get h3,h4⟩
theorem Inv.put {p : Pg} {most : Int} {s : Sk} (h : Inv p most s) {e : En} (hg : M.Good p e.cf) (hf : From p s.all s.all.length e) : Inv p most (K.put most s e):=by
  rcases vW most s e with h1 | ⟨h1,h2,h3,_⟩
  · refine ⟨by rw [h1];exact h.good,by rw [h1];exact h.len,by rw [h1];exact h.apart,by rw [h1];exact h.src⟩
  · have key : ∀ (i : Nat) (f : En),(s.all ++ [e])[i]? = some f → (s.all[i]? = some f) ∨ (i = s.all.length ∧ f = e):=fun i f hi => by
      rcases Nat.lt_or_ge i s.all.length with hl | hl
      · rw [List.getElem?_append_left hl] at hi;exact .inl hi
      · have h4:=(List.getElem?_eq_some_iff.1 hi).1
        simp only [List.length_append,List.length_singleton] at h4
        have e1 : i = s.all.length:=by omega
        subst e1
        rw [List.getElem?_append_right (Nat.le_refl _),Nat.sub_self] at hi
        exact .inr ⟨rfl,by simpa using hi.symm⟩
    have hno : ∀ (i : Nat) (f : En),s.all[i]? = some f → f.cf ≠ e.cf:=fun i f hi e1 => by
      have:=qQ.2 ⟨f,List.mem_of_getElem? hi,e1⟩
      rw [h2] at this;cases this
    rw [show K.put most s e = ⟨s.all ++ [e],(K.put most s e).left⟩ by rw [← h1]]
    refine ⟨fun f hfm => ?_,.inl (by simp only [List.length_append,List.length_singleton];omega),fun i j f g hi hj hc => ?_,fun i f hi => ?_⟩
    · rcases List.mem_append.1 hfm with h4 | h4
      · exact h.good f h4
      · rw [List.mem_singleton.1 h4];exact hg
    · rcases key i f hi with h4 | ⟨h4,h5⟩ <;> rcases key j g hj with h6 | ⟨h6,h7⟩
      · exact h.apart i j f g h4 h6 hc
      · subst h7;exact absurd hc (hno i f h4)
      · subst h5;exact absurd hc.symm (hno j g h6)
      · omega
    · rcases key i f hi with h4 | ⟨h4,h5⟩
      · exact (h.src i f h4).pre ⟨[e],rfl⟩
      · subst h4 h5;exact hf.pre ⟨[f],rfl⟩
theorem begin_cases (most : Int) : (begin most = ⟨[],true⟩ ∧ most < 1) ∨ (begin most = ⟨[⟨M.start,0,0,false,[]⟩],false⟩ ∧ 1 ≤ most):=by
  unfold begin put
  rw [if_neg (by decide)]
  by_cases h : most ≤ (([] : List En).length : Int)
  · rw [if_pos h];exact .inl ⟨rfl,by simp at h;omega⟩
  · rw [if_neg h];exact .inr ⟨rfl,by simp at h;omega⟩
theorem inv_goOn {p : Pg} (hf : Fine p) (hl : p.fns.length = p.len) {most : Int} {i : Nat} {e : En} {s : Sk} (h : Inv p most s) (he : s.all[i]? = some e) : ∀ n,Inv p most (thrs p most i e s n) ∧ (thrs p most i e s n).all[i]? = some e:=by
  intro n
  have hg:=h.good e (List.mem_of_getElem? he)
  refine zX (fun x => Inv p most x ∧ x.all[i]? = some e) (fun x t way h1 _ hx => ?_) ⟨h,he⟩ n
  have hi:=(List.getElem?_eq_some_iff.1 hx.2).1
  refine ⟨hx.1.put (M.good_step hf hl hg _ _) (.inr ⟨by omega,hi,e,hx.2,h1,rfl,rfl⟩),(put_pre _ _ _).get hx.2⟩
theorem inv_st {p : Pg} (hf : Fine p) (hl : p.fns.length = p.len) (most : Int) : ∀ k,Inv p most (st p most k)
  | 0 => by
    rcases begin_cases most with ⟨h,_⟩ | ⟨h,h1⟩
    · rw [show st p most 0 = begin most from rfl,h]
      exact ⟨fun e he => (by cases he),.inr rfl,fun i j e f hi => (by simp at hi),fun i e hi => (by simp at hi)⟩
    · rw [show st p most 0 = begin most from rfl,h]
      have key : ∀ i (e : En),[(⟨M.start,0,0,false,[]⟩ : En)][i]? = some e → i = 0 ∧ e = ⟨M.start,0,0,false,[]⟩:=fun i e hi => by
        cases i with
        | zero => exact ⟨rfl,by simpa using hi.symm⟩
        | succ i => simp at hi
      exact ⟨fun e he => by rw [List.mem_singleton.1 he];exact M.good_start hf,.inl (by simpa using h1),fun i j e f hi hj _ => by rw [(key i e hi).1,(key j f hj).1],fun i e hi => by
        obtain ⟨rfl,rfl⟩:=key i e hi;exact .inl ⟨rfl,rfl,rfl,rfl⟩⟩
  | k + 1 => by
    have ih:=inv_st hf hl most k
    rcases Nat.lt_or_ge k (st p most k).all.length with h | h
    · exact (inv_goOn hf hl ih (en_at h) _).1
    · have e1 : en p most k = default:=by unfold en;rw [List.getD_eq_getElem?_getD,List.getElem?_eq_none h];rfl
      rw [st_succ,e1]
      exact ih
theorem st_len {p : Pg} (hf : Fine p) (hl : p.fns.length = p.len) (most : Int) (k : Nat) : ((st p most k).all.length : Int) ≤ most ∨ (st p most k).all.length = 0:=by
  rcases (inv_st hf hl most k).len with h | h
  · exact .inl h
  · exact .inr (by rw [h];rfl)
end Go.Proofs.Ytnaomfmmkhgbhaa.K
