/- SemStep, SemStart, SemPickIn, SemLaw1, Equal, Equal2, SemSame, SemSame2, SemLaw2, SemLaw3, Typed, SemFill, SemPicks, SemStart2. -/
import Derived.Test.YtoekiejipdabmaaDoorSemPkA
import Derived.Test.YtoekiejipdabmaaDoorPk4
import Derived.Test.YtoekiejipdabmaaDoorPk15
import Derived.Test.YtoekiejipdabmaaDoorPk1
import Derived.Test.YtoekiejipdabmaaDoorPk10
import Derived.Laws.StructEq
import Derived.BigFrame
import Derived.Test.YtoekiejipdabmaaDoorPk13
import Derived.Test.YtoekiejipdabmaaDoorPk14
import Derived.Test.YtoekiejipdabmaaDoorPk3
import Derived.Test.YtoekiejipdabmaaDoorPk6
namespace Go.Proofs.YtoekiejipdabmaaDoor
open Go.RowKit
theorem sem_step (B : Nat) (p : Pg) (hf : Fine p) (q : Pc) (w : World) (hp : p.Ok w B) (hq : q.Ok w B) (hg : M.Good p q.cf) (hB : B ≤ w.heap.size) (t : Int) (ht : I64 t) (way : Bool) :
    Calls Tryd.prog 17 #[pcA q,pgA p,.agg #[.int .i64 t,.bool way]] w fun e w' => ∃ q',e = .returned (pcA q') ∧ Mine w' w.heap.size q' ∧ q'.cf = M.step p q.cf t way ∧ Below w.heap.size w w':=by
  cases hen : M.enabled p q.cf t with
  | false => exact JZ B p hf q w hp hq hg hB t ht way hen
  | true =>
    have h0:=(M.enabled_split hen).1
    obtain ⟨k,rfl⟩ : ∃ k : Nat,t = (k : Int):=⟨t.toNat,by omega⟩
    have henN : M.enabledN p q.cf k = true:=by have h:=(M.enabled_split hen).2;rwa [Int.toNat_natCast] at h
    have hlN:=M.enabled_lives henN
    obtain ⟨fn,hfn,_,_⟩:=M.node_is hg hlN
    have hfit:=(M.node_fit hf hg hlN hfn).kind
    obtain ⟨K,hK⟩ : ∃ K : Nat,(M.node p q.cf k).kind = (K : Int):=⟨(M.node p q.cf k).kind.toNat,by omega⟩
    obtain ⟨F,hF⟩ : ∃ F,deedL[K]? = some (fn9 F):=by
      obtain rfl | rfl | rfl | rfl | rfl | rfl | rfl | rfl | rfl | rfl : K = 0 ∨ K = 1 ∨ K = 2 ∨ K = 3 ∨ K = 4 ∨ K = 5 ∨ K = 6 ∨ K = 7 ∨ K = 8 ∨ K = 9:=by omega
      all_goals exact ⟨_,rfl⟩
    exact QE B p hf q w hp hq hg hB k ht way hen K F (by omega) hF hK
theorem LZ : Tryd.prog.built 43 [] = some (Value.slice none 0 0 :: zeros 16).toArray:=by kernel_rfl
theorem uT (A : Option Addr) (n c : Nat) : ∀ u ∈ Value.slice A n c :: zeros 16,u.oneCell' = true:=by
  intro u hu
  rcases List.mem_cons.1 hu with rfl | hu
  · rfl
  · rw [List.eq_of_mem_replicate hu];rfl
def pcNone : Pc:=⟨none,0,0,[],List.replicate 16 0⟩
theorem JF : pcC pcNone = Value.slice none 0 0 :: zeros 16:=by unfold pcC pcNone;rw [JT]
def pkV (x : Int × Bool) : Nat → Value
  | 0 => .int .i64 x.1
  | _ => .bool x.2
def Picks (w : World) (B : Nat) (A : Option Addr) (n : Nat) (l : List (Int × Bool)) : Prop:=Recs 2 pkV w B A n l ∧ ∀ x ∈ l,I64 x.1
theorem Picks.keep {w w' : World} {B : Nat} {A : Option Addr} {n : Nat} {l : List (Int × Bool)} (h : Picks w B A n l) (hk : ∀ p : Addr,p.block < B → w'.cell? p = w.cell? p) : Picks w' B A n l:=⟨h.1.keep hk,h.2⟩
def runTo (p : Pg) (l : List (Int × Bool)) (i : Nat) : M.Cf:=(l.take i).foldl (fun c x => M.step p c x.1 x.2) M.start
theorem QK (p : Pg) (l : List (Int × Bool)) : runTo p l 0 = M.start:=rfl
theorem yU (p : Pg) (l : List (Int × Bool)) (i : Nat) (x : Int × Bool) (hx : l[i]? = some x) : runTo p l (i + 1) = M.step p (runTo p l i) x.1 x.2:=by
  unfold runTo
  rw [List.take_add_one,hx,List.foldl_append];rfl
theorem xK {p : Pg} (hf : Fine p) (hl : p.fns.length = p.len) (l : List (Int × Bool)) : ∀ i,M.Good p (runTo p l i)
  | 0 => M.good_start hf
  | i + 1 => by
    cases hx : l[i]? with
    | some x => rw [yU p l i x hx];exact M.good_step hf hl (xK hf hl l i) _ _
    | none =>
      have h:=xK hf hl l i
      unfold runTo at h ⊢
      rw [List.take_add_one,hx,Option.toList,List.append_nil];exact h
theorem pg_more9 {p : Pg} {w : World} {B B' : Nat} (h : p.Ok w B) (hB : B ≤ B') : p.Ok w B':=⟨h.g,h.l,h.s,h.row.more hB,fun f hf => ⟨⟨(h.fns f hf).nodes.1.more hB,(h.fns f hf).nodes.2⟩,(h.fns f hf).lc,(h.fns f hf).cm,(h.fns f hf).nil⟩,h.lc,h.cm,h.nil⟩
def Fact.stepped (K : Nat) (c : M.Cf) : Fact :=
  ⟨fun v W => ∃ q',v = pcA q' ∧ Mine W K q' ∧ q'.cf = c,fun _ _ _ hb ⟨q',h1,h2,h3⟩ => ⟨q',h1,h2.below hb (Nat.le_refl _),h3⟩⟩
theorem XM {p : Pg} {q : Pc} (h : M.Good p q.cf) : (pcC q).length = 17:=lQ h.owns
theorem xE {w : World} {g : Nat} {q : Pc} (h : Blk w g 43 (pcC q)) : w.cell? ⟨g,0,none⟩ = some (.slice q.A q.len q.cap):=h.cell 0
theorem most_8 {p : Pg} {q : Pc} {w : World} {B : Nat} (hg : M.Good p q.cf) (h : q.Ok w B) : q.len ≤ 8:=by rw [← h.len];exact hg.most
theorem OwnR.typed {α : Type} {sz : Nat} {f : α → Nat → Value} {w : World} {B b : Nat} {e t : TypeId} {v : Value} {l : List α} {cs : List Value} (h : OwnR sz f w B e v l) (hb : Blk w b t cs) (hne : e ≠ t) : v.ownBlock ≠ some b:=by
  intro hv
  rcases h.2 with ⟨rfl,_⟩ | ⟨g,cap,cur,rfl,_,hg,_⟩
  · cases hv
  · injection hv with hv
    have hv : g = b:=hv
    subst hv
    unfold Blk at hb
    rw [hg] at hb
    injection hb with hb
    injection hb with _ h2
    exact hne h2
theorem Mine.typed {w w' : World} {B g : Nat} {q : Pc} {cs : List Value} (h : Mine w B q) (hb : Blk w g 43 cs) (hg : w.grownBy w' (some g)) : Mine w' B q :=
  h.far hg (fun b hv e => h.row.typed hb (by decide) (by rw [hv,e])) (fun k y b hy hv e => (h.fam.own k y hy).typed hb (by decide) (by rw [hv,e]))
theorem Picks.pick {w : World} {B : Nat} {A : Option Addr} {n : Nat} {l : List (Int × Bool)} (h : Picks w B A n l) {i : Nat} (hi : i < n) :
    ∃ ad x,A = some ad ∧ ad.block < B ∧ l[i]? = some x ∧ I64 x.1 ∧ w.cell? (ad.add (i * 2)) = some (.int .i64 x.1) ∧ w.cell? ⟨(ad.add (i * 2)).block,(ad.add (i * 2)).off + 1,none⟩ = some (.bool x.2):=by
  obtain ⟨ad,x,hA,hb,hx,hc0,hc1⟩:=h.1.field hi
  exact ⟨ad,x,hA,hb,hx,h.2 x (List.mem_of_getElem? hx),hc0 (by omega),hc1 1 (by omega) (by omega)⟩
theorem andNot_bit (a b : Nat) (hb : b < 4294967296) (h : a &&& (4294967295 - b) ≠ 0) : ∃ k,a.testBit k = true ∧ b.testBit k = false:=by
  obtain ⟨k,hk⟩:=Nat.exists_testBit_of_ne_zero h
  rw [Nat.testBit_and,show 4294967295 - b = 2 ^ 32 - (b + 1) by omega,Nat.testBit_two_pow_sub_succ (by omega)] at hk
  simp only [Bool.and_eq_true,Bool.not_eq_true',decide_eq_true_eq] at hk
  exact ⟨k,hk.1,hk.2.2⟩
structure RelOk (Rl : World → World → Prop) : Prop where
  refl : ∀ w,Rl w w
  trans : ∀ {w w1 w2 : World},Rl w w1 → Rl w1 w2 → Rl w w2
  drew : ∀ w : World,Rl w w.drew
structure TFact (Rl : World → World → Prop) where
  holds : Value → World → Prop
  stays : ∀ v w w',Rl w w' → holds v w → holds v w'
def TFact.any (Rl : World → World → Prop) : TFact Rl:=⟨fun _ _ => True,fun _ _ _ _ h => h⟩
def TFact.is {Rl : World → World → Prop} (c : Value) : TFact Rl:=⟨fun v _ => v = c,fun _ _ _ _ h => h⟩
def tfactAt {Rl : World → World → Prop} (R : List (TFact Rl)) (i : Nat) : TFact Rl:=R.getD i (.any Rl)
def xAt (also : List (Nat × Nat)) (i : Nat) : Option Nat:=(also.find? fun p => p.1 == i).map (·.2)
theorem xAt_mem {also : List (Nat × Nat)} {i d : Nat} (h : xAt also i = some d) : (i,d) ∈ also:=by
  unfold xAt at h
  cases hf : also.find? (fun p => p.1 == i) with
  | none => rw [hf] at h;cases h
  | some p =>
    rw [hf] at h
    have h1:=List.find?_some hf
    have h2:=List.mem_of_find?_eq_some hf
    have h3 : p.1 = i:=by simpa using h1
    have h4 : p.2 = d:=by simpa using h
    rw [← h3,← h4];exact h2
def xOk (l : List Oper) (also : List (Nat × Nat)) : Bool:=also.all fun p => match l[p.1]? with
  | some o => o.dst.isNone && (o.looksAt l.toArray).contains p.2 && (List.range l.length).all fun i => ((l[i]?).bind (·.dst) != some p.2) || ((masks l).getD p.1 0).testBit i
  | none => false
structure XOk (l : List Oper) (also : List (Nat × Nat)) : Prop where
  dst : ∀ (j d : Nat) (o : Oper),(j,d) ∈ also → l[j]? = some o → o.dst = none
  looks : ∀ (j d : Nat) (o : Oper),(j,d) ∈ also → l[j]? = some o → d ∈ o.looksAt l.toArray
  mask : ∀ (j d i : Nat) (oi : Oper),(j,d) ∈ also → l[i]? = some oi → oi.dst = some d → ((masks l).getD j 0).testBit i = true
theorem XOk.of {l : List Oper} {also : List (Nat × Nat)} (h : xOk l also = true) : XOk l also:=by
  have key : ∀ (j d : Nat),(j,d) ∈ also → ∃ o,l[j]? = some o ∧ o.dst = none ∧ d ∈ o.looksAt l.toArray ∧ ∀ i,i < l.length → ((l[i]?).bind (·.dst) != some d) = true ∨ ((masks l).getD j 0).testBit i = true:=fun j d hm => by
    have h1:=List.all_eq_true.1 h (j,d) hm
    cases ho : l[j]? with
    | none => simp [ho] at h1
    | some o =>
      simp only [ho,Bool.and_eq_true] at h1
      obtain ⟨⟨h2,h3⟩,h4⟩:=h1
      refine ⟨o,rfl,by simpa using h2,by simpa using h3,fun i hi => ?_⟩
      have h5:=List.all_eq_true.1 h4 i (List.mem_range.2 hi)
      rwa [Bool.or_eq_true] at h5
  refine ⟨fun j d o hm ho => ?_,fun j d o hm ho => ?_,fun j d i oi hm hi hd => ?_⟩
  · obtain ⟨o2,h1,h2,_⟩:=key j d hm
    rw [ho] at h1;cases h1;exact h2
  · obtain ⟨o2,h1,_,h2,_⟩:=key j d hm
    rw [ho] at h1;cases h1;exact h2
  · obtain ⟨_,_,_,_,h2⟩:=key j d hm
    rcases h2 i (List.getElem?_eq_some_iff.1 hi).1 with h3 | h3
    · rw [hi] at h3
      simp [hd] at h3
    · exact h3
section
variable {P : Program} {l : List Oper} {Q : Exit → Act → World → Prop} {a0 : Act} {w : World} {Rl : World → World → Prop} {R : List (TFact Rl)} {D : List (List (Nat × Nat))} {every also : List (Nat × Nat)}
structure TInv (Rl : World → World → Prop) (l : List Oper) (also : List (Nat × Nat)) (R : List (TFact Rl)) (a0 : Act) (w : World) (listed : Array Bool) (a : Act) (W : World) : Prop where
  size : listed.size = l.length
  ext : Rl w W
  defs : a.defers = a0.defers
  tsz : a.tmps.size = a0.tmps.size
  got : ∀ j oj d,l.toArray[j]? = some oj → oj.dst.or (xAt also j) = some d → listed.getD j false = true → (tfactAt R j).holds (a.tmps.getD d undef) W
  old : ∀ t,(∀ j oj,l.toArray[j]? = some oj → oj.dst = some t → listed.getD j false = false) → a.tmps[t]? = a0.tmps[t]?
  shut : ∀ j oj,l.toArray[j]? = some oj → listed.getD j false = true → ∀ e ∈ oj.after,Region.binds .any e = true → listed.getD e.on false = true
theorem TInv.step (hR : RelOk Rl) (hX : XOk l also) (hback : ∀ i o,l[i]? = some o → ∀ e ∈ o.after,Region.binds .any e = true → e.on < i) {listed : Array Bool} {a : Act} {W W' : World} {i : Nat} {o : Oper} {v : Value} (h : TInv Rl l also R a0 w listed a W) (hi : l.toArray[i]? = some o) (hok : OpOk l.toArray D every a0.tmps.size i o)
    (hr : i ∈ Region.ready .any l.toArray listed) (hb : Rl W W') (hv : ∀ d,o.dst.or (xAt also i) = some d → (tfactAt R i).holds ((a.put o.dst v).tmps.getD d undef) W') : TInv Rl l also R a0 w (listed.setIfInBounds i true) (a.put o.dst v) W':=by
  obtain ⟨hl,o',ho',hall⟩:=mem_ready.1 hr
  have hoo : o' = o:=by rw [hi] at ho';cases ho';rfl
  subst hoo
  have hilt : i < l.length:=by have:=(Array.getElem?_eq_some_iff.1 hi).1;simpa using this
  have hlf : listed.getD i false = false:=by
    have : i < listed.size:=by rw [h.size];exact hilt
    simp [this] at hl ⊢;exact hl
  have hii : (listed.setIfInBounds i true).getD i false = true:=by
    have : i < listed.size:=by rw [h.size];exact hilt
    simp [this]
  refine ⟨by simp [h.size],hR.trans h.ext hb,(xL _ _ _).trans h.defs,(xY _ _ _).trans h.tsz,fun j oj d hj hd hlj => ?_,fun t ht => ?_,fun j oj hj hlj e he hbe => ?_⟩
  · by_cases hji : j = i
    · subst hji
      have : oj = o':=by rw [hi] at hj;cases hj;rfl
      subst this
      exact hv d hd
    · have hlj0 : listed.getD j false = true:=by rw [getD_set_ne false (Ne.symm hji)] at hlj;exact hlj
      have h1:=h.got j oj d hj hd hlj0
      have e1 : (a.put o'.dst v).tmps.getD d undef = a.tmps.getD d undef:=by
        cases hod : o'.dst with
        | none => rfl
        | some d' =>
          have hne : d' ≠ d:=fun e => by
            cases hjd : oj.dst with
            | some d2 =>
              rw [hjd] at hd
              have e2 : d2 = d:=by simpa using hd
              exact (hok.dst d' hod).2.2 j oj hj hji (by rw [hjd,e2,e])
            | none =>
              rw [hjd] at hd
              have hx : xAt also j = some d:=by simpa using hd
              have hm:=hX.mask j d i o' (xAt_mem hx) (by simpa using hi) (by rw [hod,e])
              have hjl : l[j]? = some oj:=by simpa using hj
              have hsh : ∀ j oj,l[j]? = some oj → listed.getD j false = true → ∀ e ∈ oj.after,Region.binds .any e = true → listed.getD e.on false = true:=fun j oj hj => h.shut j oj (by simpa using hj)
              have:=lZ hback hsh j oj hjl (hsh j oj hjl hlj0) i hm
              rw [hlf] at this;cases this
          have:=qK a d' d v
          rw [if_neg (fun hh => hne hh.1)] at this
          simp [Array.getD_eq_getD_getElem?,this]
      rw [e1]
      exact (tfactAt R j).stays _ _ _ hb h1
  · have h1:=h.old t fun j oj hj hd => by
      have:=ht j oj hj hd
      by_cases hji : j = i
      · subst hji;rw [hii] at this;cases this
      · rwa [getD_set_ne false (Ne.symm hji)] at this
    cases hod : o'.dst with
    | none => exact h1
    | some d' =>
      have hne : d' ≠ t:=fun e => by
        have:=ht i o' hi (by rw [hod,e])
        rw [hii] at this;cases this
      rw [qK,if_neg (fun hh => hne hh.1)]
      exact h1
  · by_cases hji : j = i
    · subst hji
      have : oj = o':=by rw [hi] at hj;cases hj;rfl
      subst this
      exact getD_set_true (hall e he hbe)
    · rw [getD_set_ne false (Ne.symm hji)] at hlj
      exact getD_set_true (h.shut j oj hj hlj e he hbe)
end
structure Keeps (K : Nat) (T : TypeId) (w w' : World) : Prop where
  os : w'.os = w.os
  tape : w'.tape = w.tape
  output : w'.output = w.output
  size : w.heap.size ≤ w'.heap.size
  block : ∀ k,k < w.heap.size → (k < K ∨ ∀ cs,¬ Blk w k T cs) → w'.heap[k]? = w.heap[k]?
structure Fill (K : Nat) (T : TypeId) (Good : List Value → World → Prop) (w w' : World) : Prop where
  keeps : Keeps K T w w'
  turn : ∀ k cs,K ≤ k → Blk w k T cs → ∃ cs',Blk w' k T cs' ∧ (cs' = cs ∨ Good cs' w')
structure GoodOk (K : Nat) (T : TypeId) (n : Nat) (Good : List Value → World → Prop) : Prop where
  stays : ∀ cs w w',Keeps K T w w' → Good cs w → Good cs w'
  len : ∀ cs w,Good cs w → cs.length = n
section
variable {K : Nat} {T : TypeId} {Good : List Value → World → Prop} {n : Nat}
theorem Fill.of_below {w w' : World} (h : Below w.heap.size w w') : Fill K T Good w w' :=
  ⟨⟨h.os,h.tape,h.output,h.size,fun k hk _ => h.block k hk⟩,fun _ cs _ hb => ⟨cs,hb.below h hb.lt,.inl rfl⟩⟩
theorem Fill.below {w w' : World} (h : Fill w.heap.size T Good w w') : Below w.heap.size w w' :=
  ⟨h.keeps.os,h.keeps.tape,h.keeps.output,h.keeps.size,fun k hk => h.keeps.block k hk (.inl hk)⟩
theorem Fill.ok (hG : GoodOk K T n Good) : RelOk (Fill K T Good) where
  refl w:=Fill.of_below (Below.refl _ _)
  drew w:=Fill.of_below ⟨rfl,rfl,rfl,Nat.le_refl _,fun _ _ => rfl⟩
  trans {w w1 w2} h k:=by
    have hno : ∀ i,i < w.heap.size → (i < K ∨ ∀ cs,¬ Blk w i T cs) → (i < K ∨ ∀ cs,¬ Blk w1 i T cs):=fun i hi hc => by
      rcases hc with hc | hc
      · exact .inl hc
      · refine .inr fun cs hb => hc cs ?_
        unfold Blk at hb ⊢
        rw [← h.keeps.block i hi (.inr hc)];exact hb
    refine ⟨⟨k.keeps.os.trans h.keeps.os,k.keeps.tape.trans h.keeps.tape,k.keeps.output.trans h.keeps.output,Nat.le_trans h.keeps.size k.keeps.size,fun i hi hc => ?_⟩,fun i cs hK hb => ?_⟩
    · exact (k.keeps.block i (Nat.lt_of_lt_of_le hi h.keeps.size) (hno i hi hc)).trans (h.keeps.block i hi hc)
    · obtain ⟨c1,hb1,h1⟩:=h.turn i cs hK hb
      obtain ⟨c2,hb2,h2⟩:=k.turn i c1 hK hb1
      refine ⟨c2,hb2,?_⟩
      rcases h2 with h2 | h2
      · subst h2
        rcases h1 with h1 | h1
        · exact .inl h1
        · exact .inr (hG.stays _ _ _ k.keeps h1)
      · exact .inr h2
def TFact.good (hG : GoodOk K T n Good) : TFact (Fill K T Good) :=
  ⟨fun v W => ∃ g cs,v = .pointer (some ⟨g,0,none⟩) ∧ K ≤ g ∧ Blk W g T cs ∧ Good cs W,fun _ _ _ hf ⟨g,cs,h1,h2,h3,h4⟩ => by
    obtain ⟨c1,hb1,h5⟩:=hf.turn g cs h2 h3
    refine ⟨g,c1,h1,h2,hb1,?_⟩
    rcases h5 with rfl | h5
    · exact hG.stays _ _ _ hf.keeps h4
    · exact h5⟩
theorem OwnR.keeps {α : Type} {sz : Nat} {f : α → Nat → Value} {w w' : World} {B : Nat} {e : TypeId} {v : Value} {l : List α} (h : OwnR sz f w B e v l) (hk : Keeps K T w w') (hne : e ≠ T) : OwnR sz f w' B e v l:=by
  refine ⟨h.1,?_⟩
  rcases h.2 with h2 | ⟨g,cap,cur,h1,h2,h3,h4⟩
  · exact .inl h2
  · refine .inr ⟨g,cap,cur,h1,h2,?_,h4⟩
    have hlt : g < w.heap.size:=by
      rcases Nat.lt_or_ge g w.heap.size with hh | hh
      · exact hh
      · rw [Array.getElem?_eq_none hh] at h3;cases h3
    rw [hk.block g hlt (.inr fun cs hb => by
      unfold Blk at hb
      rw [h3] at hb
      injection hb with hb
      injection hb with _ h5
      exact hne h5)]
    exact h3
end
theorem Mine.keeps {K : Nat} {T : TypeId} {w w' : World} {B : Nat} {q : Pc} (h : Mine w B q) (hk : Keeps K T w w') (h1 : 50 ≠ T) (h2 : 52 ≠ T) : Mine w' B q :=
  ⟨h.row.keeps hk h1,fun k x hx => (h.fam.own k x hx).keeps hk h2,h.fam.out,h.fam.apart⟩
def confGood (K : Nat) (c1 c2 : M.Cf) : List Value → World → Prop:=fun cs w => ∃ q : Pc,cs = pcC q ∧ cs.length = 17 ∧ Mine w K q ∧ (q.cf = c1 ∨ q.cf = c2)
def TFact.stepped (K : Nat) (c1 c2 c : M.Cf) : TFact (Fill K 43 (confGood K c1 c2)) :=
  ⟨fun v W => ∃ q',v = pcA q' ∧ Mine W K q' ∧ q'.cf = c,fun _ _ _ hf ⟨q',h1,h2,h3⟩ => ⟨q',h1,h2.keeps hf.keeps (by decide) (by decide),h3⟩⟩
end Go.Proofs.YtoekiejipdabmaaDoor
namespace Go.Proofs.YtoekiejipdabmaaDoor
open Go.ChangeShapes Go.WideShapes Go.RowKit Go.Deep
section
variable {H : Type} {enc : TypeId × Value → H} {P : Program} {w : World} {base : Nat} {held : Bool}
theorem X8 {t : TypeId} {v : Value} {fuel : Nat} {y : DataW H × List MemPlace} (ht : P.underlying t = some .bool) (h : DataW.trod enc P w base (fun _ => true) held fuel t [v] = some y) : ∃ b : Bool,v = .bool b:=by
  obtain ⟨b,hn,_⟩:=DataW.trod_bool ht h
  simp at hn
  exact ⟨b,hn⟩
theorem JX {t e : TypeId} {f0 f1 : Field} {a : Option Addr} {len cap : Nat} {d : DataW H} {ps : List MemPlace} (ht : P.underlying t = some (.slice e)) (he : P.underlying e = some (.struct #[f0,f1]))
    (hone : oneCellFields P #[f0,f1] = true) (hC : P.cellsOf e = 2) (h0 : P.underlying f0.type = some (.int .i64)) (h1 : P.underlying f1.type = some .bool)
    (h : DataW.Trod enc P w base (fun _ => true) held t (.slice a len cap) d ps) : ∃ l : List (Int × Bool),Picks w w.heap.size a len l ∧ len ≤ cap ∧ cap ≤ maxLen:=by
  obtain ⟨hl,hm,hnil,hsome,hall⟩:=zW (a:=a) (len:=len) (cap:=cap) ht he hone hC h
  rcases Nat.eq_zero_or_pos len with h00 | h00
  · exact ⟨[],⟨⟨h00.symm ▸ rfl,fun h => absurd (show 0 < len from h) (by omega)⟩,by simp⟩,hl,hm⟩
  · obtain ⟨ad,rfl⟩:=hsome h00
    obtain ⟨V,hV⟩:=hall ad rfl
    have each : ∀ i,i < len → ∃ x : Int × Bool,I64 x.1 ∧ ∀ j,j < 2 → w.cell? (ad.add (i * 2 + j)) = some (pkV x j):=by
      intro i hi
      obtain ⟨c0,_,_,g0⟩:=hV i hi 0 f0 rfl
      obtain ⟨c1,_,_,g1⟩:=hV i hi 1 f1 rfl
      obtain ⟨n0,e0,w0⟩:=lC h0 g0
      obtain ⟨b1,e1⟩:=X8 h1 g1
      refine ⟨⟨n0,b1⟩,q7 w0,fun j hj => ?_⟩
      match j,hj with
      | 0,_ => rw [show pkV _ 0 = Value.int .i64 n0 from rfl,← e0];exact c0
      | 1,_ => rw [show pkV _ 1 = Value.bool b1 from rfl,← e1];exact c1
    obtain ⟨X,hX⟩:=choose_lt each
    refine ⟨(List.range len).map X,⟨⟨by simp,fun _ => ⟨ad,rfl,?_,fun k x hx j hj => ?_⟩⟩,fun x hx => ?_⟩,hl,hm⟩
    · have:=qB ((hX 0 h00).2 0 (by omega))
      rwa [add_block] at this
    · have hk : k < len:=by have:=(List.getElem?_eq_some_iff.1 hx).1;simpa using this
      rw [List.getElem?_map,List.getElem?_range hk] at hx
      cases hx
      exact (hX k hk).2 j hj
    · obtain ⟨i,hi,rfl⟩:=List.mem_map.1 hx
      exact (hX i (List.mem_range.1 hi)).1
end
end Go.Proofs.YtoekiejipdabmaaDoor
namespace Go.Proofs.YtoekiejipdabmaaDoor
open Go.RowKit
def StartPost2 (w : World) (c : Nat) : Ending → World → Prop:=fun e w' => ∃ q,e = .returned (.tuple #[pcA q,.int .i64 (c : Int)]) ∧ Mine w' w.heap.size q ∧ (c = 0 → q.cf = M.start) ∧ (c ≠ 0 → q.len = 0) ∧ q.ow.length = 16 ∧ Below w.heap.size w w'
set_option maxRecDepth 100000 in
set_option maxHeartbeats 1600000 in
theorem QF (B : Nat) (p : Pg) (w : World) (hp : p.Ok w B) (hB : B ≤ w.heap.size) (a b : Int) (c : Nat) (hc : Q.check p = (a,b,c)) :
    Calls Tryd.prog 14 #[pgA p] w (StartPost2 w c):=by
  unfold StartPost2
  have HP:=kp hp;have HC:=kp hc
  clear hp hc
  rw [jM]
  by_cases hz : c = 0
  · have HZ : Kept ((c : Int) = 0):=kp (by omega)
    have hb0 : ((c : Int) != 0) = false:=by rw [HZ.out];rfl
    have HCz:=kp hz
    clear hz
    go_enter Tryd.func14,Tryd.ntmps14
    go_wp2_with (first
      | ((with_reducible refine j4 rfl 24 (.tmp 0) rfl (pgC p) rfl ?_);intro g1 w1 hg1 hk1 hw1;have HK1:=kp hk1;have HW1:=kp hw1;have hs1:=hw1.size;have hl1:=hk1.lt;clear hk1 hw1)
      | ((with_reducible show Sl 2);go_must (refine j7 rfl 43 rfl _ lD ?_);intro g2 w2 hg2 hk2 hw2;have HK2:=kp hk2;have HK12:=kp (HK1.out.below hw2 hl1);have HW2:=kp (HW1.out.trans (hw2.mono hs1));have hs2:=HW2.out.size;have hl2:=hk2.lt;clear hk2 hw2)
      | ((with_reducible show Sl 8);go_must (refine j6 rfl 24 (.tmp 1) rfl g1 rfl _ (pgC p) _ HK12.out Tryd.underlying24 rfl jL ?_))
      | (go_at_call 27;go_must (refine (qR B p w2 (HP.out.below (HW2.out.mono hB)) (by omega) a b c HC.out).mono ?_);rintro e w3 ⟨rfl,hb3⟩;have HW3:=kp (HW2.out.trans (hb3.mono hs2));have HK23:=kp (HK2.out.below hb3 hl2);have hs3:=HW3.out.size;have hl23:=HK23.out.lt;clear hb3)
      | (go_at_call 28;go_must (refine (zS 0 w3).mono ?_);rintro e w4 ⟨g4,rfl,hown4,hg4,hb4⟩;have HOw4:=kp hown4;have HW4:=kp (HW3.out.trans (hb4.mono hs3));have HK24:=kp (HK23.out.below hb4 hl23);have hs4:=HW4.out.size;have hs34:=hb4.size;have hl24:=HK24.out.lt;have hl44:=(hown4.block g4 rfl).2;have HNe : Kept (g4 ≠ g2 ∧ w.heap.size ≤ g2 ∧ g2 < w4.heap.size ∧ w.heap.size ≤ w3.heap.size):=kp (by omega);clear hown4 hb4)
      | ((with_reducible show Sl 18);go_must (refine l4 rfl 40 50 (.tmp 17) rfl 9 Tryd.underlying40 yT (by omega) (by omega) _ (Value.slice (some ⟨g4,0,none⟩) 1 1 :: zeros 8) rfl rfl rfl ?_);intro g5 w5 hg5 hk5 hb5;have HK5:=kp hk5;have HW5:=kp (HW4.out.trans (hb5.mono hs4));have HK25:=kp (HK24.out.below hb5 hl24);have HOw5:=kp (HOw4.out.below hb5 (Nat.le_refl _));have hs5:=HW5.out.size;have HNe5 : Kept (g5 ≠ g2 ∧ w.heap.size ≤ g5 ∧ g5 ≠ g4):=kp (by have:=HNe.out.2.2;omega);clear hk5 hb5)
      | ((with_reducible show Sl 19);go_must (refine xU rfl 43 0 (.tmp 18) rfl (.slice (some ⟨g5,0,none⟩) 1 1) rfl (Value.slice (some ⟨g5,0,none⟩) 1 1 :: zeros 16) (X9 (some ⟨g5,0,none⟩) 1 1) ?_))
      | ((with_reducible show Sn);go_must (refine j5 rfl 43 (.tmp 2) (.tmp 19) rfl g2 (Value.slice (some ⟨g5,0,none⟩) 1 1 :: zeros 16) rfl rfl _ _ HK25.out jH rfl (uT _ _ _) ?_);intro w6 hk6 hg6 hs6
         have HK6:=kp hk6;have HK56:=kp (HK5.out.grown hg6 (fun e => by cases e;exact HNe5.out.1 rfl));have HOw6:=kp (HOw5.out.far hg6 (.inr (fun e => by cases e;exact HNe.out.1 rfl)));have HW6:=kp (HW5.out.grown hg6 HW5.out.size (fun k e => by cases e;exact HNe.out.2.1));clear hk6 hg6 hs6))
    have HRow : Kept (OwnR 9 tvV w6 w.heap.size 50 (.slice (some ⟨g5,0,none⟩) 1 1) [newT 0 g4]):=kp (OwnR.of_blk HK56.out HNe5.out.2.1 rfl (Nat.le_refl _) (by unfold maxLen;omega) rfl rfl)
    have HOk : Kept (Mine w6 w.heap.size ⟨some ⟨g5,0,none⟩,1,1,[newT 0 g4],List.replicate 16 0⟩):=kp ⟨HRow.out,(Fam.nil _ _ _ _).add (HOw6.out.less HNe.out.2.2.2) (fun b hb h => by
      have e1 : g4 = b:=by have h2 : some g4 = some b:=hb;injection h2
      have e2 : g5 = b:=by have h2 : some g5 = some b:=h;injection h2
      exact HNe5.out.2.2 (e2.trans e1.symm)) (fun _ _ _ h => by simp at h)⟩
    have HKf : Kept (Blk w6 g2 43 (pcC ⟨some ⟨g5,0,none⟩,1,1,[newT 0 g4],List.replicate 16 0⟩)):=kp (by unfold pcC;rw [← JT];exact HK6.out)
    go_wp2_with ((with_reducible show bodyPost _ _ _ _ _ _);exact bodyPost_ret (lN (P:=Tryd.prog) (fn:=Tryd.f14) rfl _ _ g2 43 _ _ _ rfl rfl HKf.out Tryd.underlying43 rfl jH) rfl ⟨⟨some ⟨g5,0,none⟩,1,1,[newT 0 g4],List.replicate 16 0⟩,by rw [HZ.out];rfl,HOk.out,fun _ => rfl,fun h => absurd HCz.out h,rfl,HW6.out⟩)
  · have hb0 : ((c : Int) != 0) = true:=by simpa using hz
    have HZ:=kp hz
    clear hz
    go_enter Tryd.func14,Tryd.ntmps14
    go_wp2_with (first
      | ((with_reducible refine j4 rfl 24 (.tmp 0) rfl (pgC p) rfl ?_);intro g1 w1 hg1 hk1 hw1;have HK1:=kp hk1;have HW1:=kp hw1;have hs1:=hw1.size;have hl1:=hk1.lt;clear hk1 hw1)
      | ((with_reducible show Sl 2);go_must (refine j7 rfl 43 rfl _ lD ?_);intro g2 w2 hg2 hk2 hw2;have HK2:=kp hk2;have HK12:=kp (HK1.out.below hw2 hl1);have HW2:=kp (HW1.out.trans (hw2.mono hs1));have hs2:=HW2.out.size;have hl2:=hk2.lt;clear hk2 hw2)
      | ((with_reducible show Sl 8);go_must (refine j6 rfl 24 (.tmp 1) rfl g1 rfl _ (pgC p) _ HK12.out Tryd.underlying24 rfl jL ?_))
      | (go_at_call 27;go_must (refine (qR B p w2 (HP.out.below (HW2.out.mono hB)) (by omega) a b c HC.out).mono ?_);rintro e w3 ⟨rfl,hb3⟩;have HW3:=kp (HW2.out.trans (hb3.mono hs2));have HK23:=kp (HK2.out.below hb3 hl2);have hs3:=HW3.out.size;have hl23:=HK23.out.lt;clear hb3)
      | ((with_reducible show Sl 15);go_must (refine qJ rfl 43 #[] rfl [] (by simp) (Value.slice none 0 0 :: zeros 16) LZ ?_))
      | ((with_reducible show Sn);go_must (refine j5 rfl 43 (.tmp 2) (.tmp 15) rfl g2 (Value.slice none 0 0 :: zeros 16) rfl rfl _ _ HK23.out jH rfl (uT _ _ _) ?_);intro w6 hk6 hg6 hs6
         have HK6:=kp hk6;have HW6:=kp (HW3.out.grown hg6 hs3 (fun k e => by cases e;omega));clear hk6 hg6 hs6))
    have HKf : Kept (Blk w6 g2 43 (pcC pcNone)):=kp (by rw [JF];exact HK6.out)
    have HOk : Kept (Mine w6 w.heap.size pcNone):=kp ⟨OwnR.nil _ _ _ _ _,Fam.nil _ _ _ _⟩
    go_wp2_with ((with_reducible show bodyPost _ _ _ _ _ _);exact bodyPost_ret (lN (P:=Tryd.prog) (fn:=Tryd.f14) rfl _ _ g2 43 _ _ _ rfl rfl HKf.out Tryd.underlying43 rfl jH) rfl ⟨pcNone,rfl,HOk.out,fun h => absurd h HZ.out,fun _ => rfl,rfl,HW6.out⟩)
end Go.Proofs.YtoekiejipdabmaaDoor
