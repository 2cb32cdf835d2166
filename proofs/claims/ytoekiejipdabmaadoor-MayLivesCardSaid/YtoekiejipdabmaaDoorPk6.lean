/- Acts, Early, Facts, HeapP1, HeapP2, GraphP2, Box, SetP2. -/
import Derived.Test.YtoekiejipdabmaaDoorPk3
import Derived.Test.YtoekiejipdabmaaDoorPk1
import Derived.Test.YtoekiejipdabmaaDoorPk2
import Derived.Test.YtoekiejipdabmaaDoorPk5
import Derived.BigQuiet
import Derived.Deep.QuietTactic
namespace Go.Proofs.YtoekiejipdabmaaDoor
open Go.RowKit
structure Only (G : Nat → Prop) (w w' : World) : Prop where
  os : w'.os = w.os
  tape : w'.tape = w.tape
  output : w'.output = w.output
  size : w.heap.size ≤ w'.heap.size
  block : ∀ k,k < w.heap.size → ¬ G k → w'.heap[k]? = w.heap[k]?
theorem Only.refl (G : Nat → Prop) (w : World) : Only G w w:=⟨rfl,rfl,rfl,Nat.le_refl _,fun _ _ _ => rfl⟩
theorem Only.trans {G : Nat → Prop} {w w1 w2 : World} (h : Only G w w1) (k : Only G w1 w2) : Only G w w2 :=
  ⟨k.os.trans h.os,k.tape.trans h.tape,k.output.trans h.output,Nat.le_trans h.size k.size,fun i hi hg => (k.block i (Nat.lt_of_lt_of_le hi h.size) hg).trans (h.block i hi hg)⟩
theorem Only.of_below {G : Nat → Prop} {w w' : World} (h : Below w.heap.size w w') : Only G w w':=⟨h.os,h.tape,h.output,h.size,fun k hk _ => h.block k hk⟩
theorem Only.of_grown {G : Nat → Prop} {w w' : World} {g : Nat} (h : w.grownBy w' (some g)) (hg : G g) : Only G w w':=⟨h.os,h.tape,h.output,h.size,fun k hk hn => h.block k hk (by intro e;cases e;exact hn hg)⟩
theorem Only.below {G : Nat → Prop} {w w' : World} {B : Nat} (h : Only G w w') (hB : B ≤ w.heap.size) (hG : ∀ k,G k → B ≤ k) : Below B w w' :=
  ⟨h.os,h.tape,h.output,h.size,fun k hk => h.block k (by omega) fun hg => by have:=hG k hg;omega⟩
theorem Only.cell {G : Nat → Prop} {w w' : World} (h : Only G w w') {p : Addr} (hp : p.block < w.heap.size) (hg : ¬ G p.block) : w'.cell? p = w.cell? p:=World.cell?_of_block (w:=w) (h.block _ hp hg)
theorem Only.blk {G : Nat → Prop} {w w' : World} {g : Nat} {t : TypeId} {cs : List Value} (h : Only G w w') (hk : Blk w g t cs) (hg : ¬ G g) : Blk w' g t cs:=by
  unfold Blk;rw [h.block g hk.lt hg];exact hk
theorem Row.only {α : Type} {f : α → Value} {G : Nat → Prop} {w w' : World} {B n : Nat} {A : Option Addr} {l : List α} (h : Row f w B A n l) (ho : Only G w w') (hB : B ≤ w.heap.size) (hg : ∀ ad,0 < n → A = some ad → ¬ G ad.block) : Row f w' B A n l :=
  ⟨h.len,fun hn => by
    obtain ⟨ad,e,hb,hc⟩:=h.cells hn
    exact ⟨ad,e,hb,fun k hlt => (ho.cell (by rw [add_block];omega) (by rw [add_block];exact hg ad hn e)).trans (hc k hlt)⟩⟩
structure GFact (G : Nat → Prop) where
  holds : Value → World → Prop
  stays : ∀ v w w',Only G w w' → holds v w → holds v w'
def GFact.any (G : Nat → Prop) : GFact G:=⟨fun _ _ => True,fun _ _ _ _ h => h⟩
def GFact.is {G : Nat → Prop} (c : Value) : GFact G:=⟨fun v _ => v = c,fun _ _ _ _ h => h⟩
def GFact.bytes {G : Nat → Prop} (bs : List Nat) : GFact G :=
  ⟨fun v w => ∃ A cap,v = .slice A bs.length cap ∧ Row byteV w w.heap.size A bs.length bs ∧ ∀ ad,A = some ad → ¬ G ad.block,
   fun _ _ _ hb ⟨A,cap,hv,hr,hg⟩ => ⟨A,cap,hv,(hr.only hb (Nat.le_refl _) fun ad _ e => hg ad e).more hb.size,hg⟩⟩
def ActPost (G : Nat → Prop) (J : Nat → World → Prop) (p : Nat) (D : List Deferred) (W : World) (o : Oper) (R : GFact G) : Exit → Act → World → Prop
  | .normal,a,w => a.defers = D ∧ Only G W w ∧ J p w ∧ R.holds (slotOf o a) w
  | _,_,_ => False
def gfactAt {G : Nat → Prop} (R : List (GFact G)) (i : Nat) : GFact G:=R.getD i (.any G)
def ggiven {G : Nat → Prop} (R : List (GFact G)) (W : World) (T : Act → Prop) : List (Nat × Nat) → Act → Prop
  | [],a => T a
  | p :: ps,a => ∀ v,(gfactAt R p.1).holds v W → ggiven R W T ps (a.put (some p.2) v)
theorem y6 {G : Nat → Prop} {R : List (GFact G)} {W : World} {T : Act → Prop} {a : Act} : ∀ (ps : List (Nat × Nat)) (b : Act),ggiven R W T ps b → (∀ p ∈ ps,(gfactAt R p.1).holds (a.tmps.getD p.2 undef) W) → T (fill a ps b)
  | [],_,h,_ => h
  | p :: ps,_,h,hp => y6 ps _ (h _ (hp p (List.mem_cons_self))) fun q hq => hp q (List.mem_cons_of_mem _ hq)
def phase (acts : List Nat) (listed : Array Bool) : Nat:=acts.countP fun j => listed.getD j false
def rank (acts : List Nat) (i : Nat) : Nat:=acts.countP fun j => decide (j < i)
def actsOk (l : List Oper) (acts : List Nat) : Bool:=acts.all fun i => decide (i < l.length) && acts.all fun j => decide (i ≤ j) || ((masks l).getD i 0).testBit j
section
variable {P : Program} {l : List Oper} {Q : Exit → Act → World → Prop} {a0 : Act} {w : World} {G : Nat → Prop} {R : List (GFact G)} {J : Nat → World → Prop} {acts : List Nat} {D : List (List (Nat × Nat))} {every : List (Nat × Nat)}
structure GInv (l : List Oper) (acts : List Nat) (J : Nat → World → Prop) (R : List (GFact G)) (a0 : Act) (w : World) (listed : Array Bool) (a : Act) (W : World) : Prop where
  size : listed.size = l.length
  ext : Only G w W
  ph : J (phase acts listed) W
  defs : a.defers = a0.defers
  tsz : a.tmps.size = a0.tmps.size
  got : ∀ j oj d,l.toArray[j]? = some oj → oj.dst = some d → listed.getD j false = true → (gfactAt R j).holds (a.tmps.getD d undef) W
  old : ∀ t,(∀ j oj,l.toArray[j]? = some oj → oj.dst = some t → listed.getD j false = false) → a.tmps[t]? = a0.tmps[t]?
  shut : ∀ j oj,l.toArray[j]? = some oj → listed.getD j false = true → ∀ e ∈ oj.after,Region.binds .any e = true → listed.getD e.on false = true
theorem vG (acts : List Nat) (listed : Array Bool) (i : Nat) (h : i ∉ acts) : phase acts (listed.setIfInBounds i true) = phase acts listed:=by
  unfold phase
  refine List.countP_congr fun j hj => ?_
  have : i ≠ j:=fun e => h (by rw [e];exact hj)
  rw [getD_set_ne false this]
theorem phase_at {acts : List Nat} {listed : Array Bool} {i : Nat} (hb : ∀ j ∈ acts,j < i → listed.getD j false = true) (ha : ∀ j ∈ acts,i ≤ j → listed.getD j false = false) : phase acts listed = rank acts i:=by
  unfold phase rank
  refine List.countP_congr fun j hj => ?_
  rcases Nat.lt_or_ge j i with h | h
  · rw [hb j hj h];simpa using h
  · rw [ha j hj h];simp;omega
theorem QR {acts : List Nat} {listed : Array Bool} {i : Nat} (hn : acts.Nodup) (hi : i ∈ acts) (hs : i < listed.size) (hf : listed.getD i false = false) : phase acts (listed.setIfInBounds i true) = phase acts listed + 1:=by
  unfold phase
  induction acts with
  | nil => cases hi
  | cons x r ih =>
    rw [List.nodup_cons] at hn
    rw [List.countP_cons,List.countP_cons]
    by_cases hx : x = i
    · subst hx
      have h1 : (listed.setIfInBounds x true).getD x false = true:=by simp [hs]
      have h2:=vG r listed x hn.1
      unfold phase at h2
      rw [h1,hf,h2];simp
    · have hir : i ∈ r:=by
        rcases List.mem_cons.1 hi with h | h
        · exact absurd h.symm hx
        · exact h
      rw [ih hn.2 hir,getD_set_ne false (Ne.symm hx)]
      omega
theorem act_ready (hok : ∀ i o,l[i]? = some o → ∀ e ∈ o.after,Region.binds .any e = true → e.on < i) (hacts : actsOk l acts = true) {listed : Array Bool} {a : Act} {W : World} {i : Nat} {o : Oper} (hi : l[i]? = some o) (ha : i ∈ acts)
    (h : GInv l acts J R a0 w listed a W) (hall : ∀ e ∈ o.after,Region.binds .any e = true → listed.getD e.on false = true) (hlf : listed.getD i false = false) : phase acts listed = rank acts i:=by
  have hshut : ∀ j oj,l[j]? = some oj → listed.getD j false = true → ∀ e ∈ oj.after,Region.binds .any e = true → listed.getD e.on false = true:=fun j oj hj => h.shut j oj (by simpa using hj)
  unfold actsOk at hacts
  have h1:=List.all_eq_true.1 hacts i ha
  rw [Bool.and_eq_true] at h1
  refine phase_at (fun j hj hlt => ?_) fun j hj hle => ?_
  · have h2:=List.all_eq_true.1 h1.2 j hj
    rw [Bool.or_eq_true] at h2
    rcases h2 with h2 | h2
    · have : i ≤ j:=by simpa using h2
      omega
    · exact lZ hok hshut i o hi hall j h2
  · by_cases hij : j = i
    · rw [hij];exact hlf
    · cases hlj : listed.getD j false
      · rfl
      · exfalso
        have h2:=List.all_eq_true.1 hacts j hj
        rw [Bool.and_eq_true] at h2
        have hjl : j < l.length:=by simpa using h2.1
        have h3:=List.all_eq_true.1 h2.2 i ha
        rw [Bool.or_eq_true] at h3
        rcases h3 with h3 | h3
        · have : j ≤ i:=by simpa using h3
          omega
        · have hjo : l[j]? = some l[j]:=List.getElem?_eq_getElem hjl
          have:=lZ hok hshut j _ hjo (hshut j _ hjo hlj) i h3
          rw [hlf] at this;cases this
theorem GInv.step {listed : Array Bool} {a : Act} {W W' : World} {i : Nat} {o : Oper} {v : Value} (h : GInv l acts J R a0 w listed a W) (hi : l.toArray[i]? = some o) (hok : OpOk l.toArray D every a0.tmps.size i o)
    (hr : i ∈ Region.ready .any l.toArray listed) (hb : Only G W W') (hph : J (phase acts (listed.setIfInBounds i true)) W') (hv : ∀ d,o.dst = some d → (gfactAt R i).holds v W') : GInv l acts J R a0 w (listed.setIfInBounds i true) (a.put o.dst v) W':=by
  obtain ⟨hl,o',ho',hall⟩:=mem_ready.1 hr
  have hoo : o' = o:=by rw [hi] at ho';cases ho';rfl
  subst hoo
  have hilt : i < l.length:=by have:=(Array.getElem?_eq_some_iff.1 hi).1;simpa using this
  have hii : (listed.setIfInBounds i true).getD i false = true:=by
    have : i < listed.size:=by rw [h.size];exact hilt
    simp [this]
  refine ⟨by simp [h.size],h.ext.trans hb,hph,(xL _ _ _).trans h.defs,(xY _ _ _).trans h.tsz,fun j oj d hj hd hlj => ?_,fun t ht => ?_,fun j oj hj hlj e he hbe => ?_⟩
  · by_cases hji : j = i
    · subst hji
      have : oj = o':=by rw [hi] at hj;cases hj;rfl
      subst this
      have hlt:=(hok.dst d hd).1
      rw [hd]
      have e1 : (a.put (some d) v).tmps.getD d undef = v:=by
        have:=qK a d d v
        rw [if_pos ⟨rfl,by rw [h.tsz];exact hlt⟩] at this
        simp [Array.getD_eq_getD_getElem?,this]
      rw [e1]
      exact hv d hd
    · have h1:=h.got j oj d hj hd (by rw [getD_set_ne false (Ne.symm hji)] at hlj;exact hlj)
      have e1 : (a.put o'.dst v).tmps.getD d undef = a.tmps.getD d undef:=by
        cases hod : o'.dst with
        | none => rfl
        | some d' =>
          have hne : d' ≠ d:=fun e => (hok.dst d' hod).2.2 j oj hj hji (by rw [e];exact hd)
          have:=qK a d' d v
          rw [if_neg (fun hh => hne hh.1)] at this
          simp [Array.getD_eq_getD_getElem?,this]
      rw [e1]
      exact (gfactAt R j).stays _ _ _ hb h1
  · have h1:=h.old t fun j oj hj hd => by
      have:=ht j oj hj hd
      by_cases hji : j = i
      · subst hji;rw [hii] at this;cases this
      · rwa [getD_set_ne false (Ne.symm hji)] at this
    cases hod : o'.dst with
    | none => exact h1
    | some d' =>
      have hne : d' ≠ t:=fun e => by
        have:=ht i o' hi (by rw [hod,e])
        rw [hii] at this;cases this
      rw [qK,if_neg (fun hh => hne hh.1)]
      exact h1
  · by_cases hji : j = i
    · subst hji
      have : oj = o':=by rw [hi] at hj;cases hj;rfl
      subst this
      exact getD_set_true (hall e he hbe)
    · rw [getD_set_ne false (Ne.symm hji)] at hlj
      exact getD_set_true (h.shut j oj hj hlj e he hbe)
theorem act_one {listed : Array Bool} {a : Act} {W : World} {K : Act → World → Prop} {i : Nat} {o : Oper} (hi : l.toArray[i]? = some o) (ok : OpOk l.toArray D every a0.tmps.size i o)
    (hob : ggiven R W (fun a1 => wpList P l.toArray (ActPost G J (phase acts (listed.setIfInBounds i true)) a0.defers W o (gfactAt R i)) [o] a1 W) (D.getD i []) a0)
    (h : GInv l acts J R a0 w listed a W) (hr : i ∈ Region.ready .any l.toArray listed) (hK : ∀ a' W',GInv l acts J R a0 w (listed.setIfInBounds i true) a' W' → K a' W') : wpOp P l.toArray Q i K a W:=by
  obtain ⟨hl,o',hi',hall'⟩:=mem_ready.1 hr
  have hall : ∀ e ∈ o.after,Region.binds .any e = true → listed.getD e.on false = true:=by
    rw [hi] at hi';cases hi';exact hall'
  have hlf : listed.getD i false = false:=by
    have : i < listed.size:=by rw [h.size];exact (by have:=(Array.getElem?_eq_some_iff.1 hi).1;simpa using this)
    simp [this] at hl ⊢;exact hl
  have hg:=y6 (a:=a) (D.getD i []) a0 hob fun p hp => by
    obtain ⟨⟨oj,hj,hd⟩,e,he,hb,hon⟩:=ok.deps p hp
    exact h.got p.1 oj p.2 hj hd (by rw [← hon];exact hall e he hb)
  generalize ha1 : fill a (D.getD i []) a0 = a1 at hg
  have agree : ∀ t ∈ o.looksAt l.toArray,a.tmps[t]? = a1.tmps[t]?:=by
    intro t ht
    rw [← ha1,yK]
    by_cases hc : t ∈ (D.getD i []).map (·.2) ∧ t < a0.tmps.size
    · rw [if_pos hc,zK a t (by rw [h.tsz];exact hc.2)]
    · rw [if_neg hc]
      by_cases htl : t < a0.tmps.size
      · refine h.old t fun j oj hj hd => ?_
        rcases ok.looks t ht j oj hj hd with hin | ⟨e,he,hb,hon⟩
        · exact absurd ⟨List.mem_map.2 ⟨(j,t),hin,rfl⟩,htl⟩ hc
        · cases hlj : listed.getD j false
          · rfl
          · have:=h.shut j oj hj hlj e he hb
            rw [hon,hlf] at this;cases this
      · have n1 : a.tmps[t]? = none:=Array.getElem?_eq_none (by rw [h.tsz];exact Nat.le_of_not_lt htl)
        have n2 : a0.tmps[t]? = none:=Array.getElem?_eq_none (Nat.le_of_not_lt htl)
        rw [n1,n2]
  have hex : execOp a1.eval o = execOp a.eval o:=execOp_congr o ok.sel fun x hx => by
    cases x with
    | tmp t =>
      have:=agree t (List.mem_append_left _ (List.mem_filterMap.2 ⟨.tmp t,by simpa using hx,rfl⟩))
      simp [Act.eval,Array.getD_eq_getD_getElem?,this]
    | _ => rfl
  have hwt : Region.wanted o (yielded l.toArray a1.tmps) = Region.wanted o (yielded l.toArray a.tmps):=by
    unfold Region.wanted
    cases hgd : o.guard with
    | none => rfl
    | some gw =>
      obtain ⟨g,want⟩:=gw
      have hy : yielded l.toArray a1.tmps g = yielded l.toArray a.tmps g:=by
        unfold yielded
        cases ht : (l.toArray[g]?).bind (·.dst) with
        | none => rfl
        | some t =>
          have ht2 : (l[g]?.bind fun x => x.dst) = some t:=by simpa using ht
          have:=agree t (by simp [Oper.looksAt,hgd,ht2])
          simp [this]
      simp only [hy]
  have hsl : ∀ v d,o.dst = some d → slotOf o (a1.put o.dst v) = v:=by
    intro v d hd
    have hlt:=(ok.dst d hd).1
    have:=qK a1 d d v
    rw [if_pos ⟨rfl,by rw [← ha1,vA];exact hlt⟩] at this
    simp [slotOf,hd,Array.getD_eq_getD_getElem?,this]
  have done : ∀ v W',ActPost G J (phase acts (listed.setIfInBounds i true)) a0.defers W o (gfactAt R i) .normal (a1.put o.dst v) W' → K (a.put o.dst v) W':=by
    rintro v W' ⟨_,hb,hph,hv⟩
    refine hK _ _ (h.step hi ok hr hb hph fun d hd => ?_)
    rw [hsl v d hd] at hv
    exact hv
  unfold wpOp
  simp only [hi]
  rw [← hwt]
  unfold wpList at hg
  by_cases hw : Region.wanted o (yielded l.toArray a1.tmps) = true
  · rw [if_pos hw] at hg ⊢
    rcases hg with hg | ⟨_,_,_,hf⟩
    case inr => exact hf.elim
    refine .inl ?_
    unfold Oper.wp at hg ⊢
    rw [hex] at hg
    generalize (execOp a.eval o).run P W = r at *
    cases r with
    | ok n w' =>
      cases n <;> simp only [Oper.upon] at hg ⊢
      case value v => exact done v w' hg
      case skip => exact done undef w' hg
      case defer d =>
        obtain ⟨hd,_⟩:=hg
        rw [xL] at hd
        have e1 : a1.defers = a0.defers:=by rw [← ha1];exact xD _ _ _
        simp only [e1] at hd
        exact absurd hd (by simp)
      case enter f args =>
        refine Calls.mono hg fun e w'' he => ?_
        cases e with
        | returned v => exact done v w'' he
        | panicked c => exact he.elim
        | outgrown => obtain ⟨_,_,hf⟩:=he;exact hf.elim
      case row row args => exact Rows.mono hg fun v w'' he => done v w'' he
    | halt x w' =>
      cases x <;> simp only [Oper.upon] at hg ⊢
      case panic v => exact hg.elim
  · rw [if_neg hw] at hg ⊢
    exact done undef W hg
theorem acts_any (hacts : ∀ i ∈ acts,i < l.length) (hok : ∀ i o,l.toArray[i]? = some o → OpOk l.toArray D every a0.tmps.size i o) (hev : ∀ p ∈ every,∃ oj,l.toArray[p.1]? = some oj ∧ oj.dst = some p.2)
    (hob : ∀ i o,l.toArray[i]? = some o → ∀ (listed : Array Bool) a W,GInv l acts J R a0 w listed a W → i ∈ Region.ready .any l.toArray listed → ggiven R W (fun a1 => wpList P l.toArray (ActPost G J (phase acts (listed.setIfInBounds i true)) a0.defers W o (gfactAt R i)) [o] a1 W) (D.getD i []) a0)
    (hend : ∀ W,Only G w W → J acts.length W → ggiven R W (fun a => Q .normal a W) every a0) :
    ∀ (fuel : Nat) (listed : Array Bool) (a : Act) (W : World),GInv l acts J R a0 w listed a W → listed.toList.count false ≤ fuel → wpAny P .any l.toArray Q fuel listed a W:=by
  have phase_all : ∀ {listed : Array Bool},(∀ j,j < l.toArray.size → listed.getD j false = true) → phase acts listed = acts.length:=by
    intro listed hall
    unfold phase
    exact List.countP_eq_length.2 fun j hj => hall j (by simpa using hacts j hj)
  have fin : ∀ (listed : Array Bool) (a : Act) (W : World),GInv l acts J R a0 w listed a W → (∀ j,j < l.toArray.size → listed.getD j false = true) → Q .normal a W:=by
    intro listed a W h hall
    have h1:=y6 (a:=a) every a0 (hend W h.ext (by have:=h.ph;rwa [phase_all hall] at this)) fun p hp => by
      obtain ⟨oj,hj,hd⟩:=hev p hp
      exact h.got p.1 oj p.2 hj hd (hall p.1 (Array.getElem?_eq_some_iff.1 hj).1)
    have e1 : fill a every a0 = a:=by
      have e2 : (fill a every a0).tmps = a.tmps:=by
        apply Array.ext_getElem?
        intro t
        rw [yK]
        by_cases hc : t ∈ every.map (·.2) ∧ t < a0.tmps.size
        · rw [if_pos hc,zK a t (by rw [h.tsz];exact hc.2)]
        · rw [if_neg hc]
          by_cases ht : t < a0.tmps.size
          · refine (h.old t fun j oj hj hd => ?_).symm
            exfalso
            exact hc ⟨List.mem_map.2 ⟨(j,t),((hok j oj hj).dst t hd).2.1,rfl⟩,ht⟩
          · rw [Array.getElem?_eq_none (by omega),Array.getElem?_eq_none (by rw [h.tsz];omega)]
      have e3:=(xD a every a0).trans h.defs.symm
      cases hf : fill a every a0
      cases a
      rw [hf] at e2 e3
      simp only at e2 e3
      rw [e2,e3]
    rw [e1] at h1
    exact h1
  have one : ∀ (fuel : Nat) (listed : Array Bool) (a : Act) (W : World) (K : Act → World → Prop) (i : Nat),GInv l acts J R a0 w listed a W → i ∈ Region.ready .any l.toArray listed →
      (∀ a' W',GInv l acts J R a0 w (listed.setIfInBounds i true) a' W' → K a' W') → wpOp P l.toArray Q i K a W:=by
    intro fuel listed a W K i h hr hK
    obtain ⟨_,o,hi,_⟩:=mem_ready.1 hr
    exact act_one hi (hok i o hi) (hob i o hi listed a W h hr) h hr hK
  intro fuel
  induction fuel with
  | zero =>
    intro listed a W h hc
    have hall : ∀ j,j < l.toArray.size → listed.getD j false = true:=by
      intro j hj
      have hn : false ∉ listed.toList:=List.count_eq_zero.1 (by omega)
      have hjl : j < listed.size:=by rw [h.size];simpa using hj
      cases hb : listed[j]
      · exact absurd (by rw [← hb];exact Array.getElem_mem_toList hjl) hn
      · simp [hjl,hb]
    refine ⟨?_,fin _ _ _ h hall⟩
    cases hr : Region.ready .any l.toArray listed with
    | nil => rfl
    | cons x xs =>
      have hx : x ∈ Region.ready .any l.toArray listed:=by rw [hr];exact List.mem_cons_self
      obtain ⟨hl,o,hi,_⟩:=mem_ready.1 hx
      have hlt : x < l.toArray.size:=(Array.getElem?_eq_some_iff.1 hi).1
      have:=hall x hlt
      have hxl : x < listed.size:=by rw [h.size];simpa using hlt
      simp [hxl] at hl this
      rw [hl] at this;cases this
  | succ fuel ih =>
    intro listed a W h hc
    refine ⟨fun hr => fin _ _ _ h (yY hok (by simpa using h.size) hr),fun i hi => one fuel listed a W _ i h hi fun a' W' h' => ih _ _ _ h' ?_⟩
    obtain ⟨hl,o,ho,_⟩:=mem_ready.1 hi
    have hil : i < listed.size:=by rw [h.size];have:=(Array.getElem?_eq_some_iff.1 ho).1;simpa using this
    have:=yL listed.toList i (by
      simp [hil] at hl ⊢;exact hl)
    rw [Array.toList_setIfInBounds]
    omega
def phs (l : List (World → Prop)) (p : Nat) (W : World) : Prop:=l.getD p (fun _ => True) W
end
theorem jA {G : Nat → Prop} {J : Nat → World → Prop} {p : Nat} {D : List Deferred} {W : World} {o : Oper} {d : Nat} {c : Value} {a : Act} (ho : o.dst = some d) (hs : a.tmps.toList[d]? = some c) (hd : a.defers = D) (hj : J p W) : ActPost G J p D W o (GFact.is c) .normal a W:=by
  refine ⟨hd,Only.refl _ _,hj,?_⟩
  show slotOf o a = c
  have h : a.tmps[d]? = some c:=by simpa using hs
  simp [slotOf,ho,Array.getD_eq_getD_getElem?,h]
theorem qW {G : Nat → Prop} {J : Nat → World → Prop} {p : Nat} {D : List Deferred} {W W' : World} {o : Oper} {d : Nat} {c : Value} {R : GFact G} {a : Act} (ho : o.dst = some d) (hs : a.tmps.toList[d]? = some c) (hd : a.defers = D) (hb : Only G W W') (hj : J p W') (hr : R.holds c W') : ActPost G J p D W o R .normal a W':=by
  refine ⟨hd,hb,hj,?_⟩
  have h : a.tmps[d]? = some c:=by simpa using hs
  simp only [slotOf,ho,Array.getD_eq_getD_getElem?,h,Option.getD_some]
  exact hr
def earlyOk (l : List Oper) (acts E : List Nat) : Bool:=acts.all fun a => decide (a < l.length) && E.all fun i => ((masks l).getD a 0).testBit i
section
variable {P : Program} {l : List Oper} {Q : Exit → Act → World → Prop} {a0 : Act} {w : World} {G : Nat → Prop} {R : List (GFact G)} {J : Nat → World → Prop} {acts E : List Nat} {D : List (List (Nat × Nat))} {every : List (Nat × Nat)}
theorem LS (hok : ∀ i o,l[i]? = some o → ∀ e ∈ o.after,Region.binds .any e = true → e.on < i) (he : earlyOk l acts E = true) {listed : Array Bool} {a : Act} {W : World} {i : Nat} (hi : i ∈ E)
    (h : GInv l acts J R a0 w listed a W) (hlf : listed.getD i false = false) : phase acts listed = 0:=by
  unfold phase
  refine List.countP_eq_zero.2 fun j hj => ?_
  intro hlj
  have h1:=List.all_eq_true.1 he j hj
  rw [Bool.and_eq_true] at h1
  have hjl : j < l.length:=by simpa using h1.1
  have h2:=List.all_eq_true.1 h1.2 i hi
  have hshut : ∀ j oj,l[j]? = some oj → listed.getD j false = true → ∀ e ∈ oj.after,Region.binds .any e = true → listed.getD e.on false = true:=fun j oj hj => h.shut j oj (by simpa using hj)
  have hjo : l[j]? = some l[j]:=List.getElem?_eq_getElem hjl
  have:=lZ hok hshut j _ hjo (hshut j _ hjo hlj) i h2
  rw [hlf] at this;cases this
def eobs (P : Program) (ops : Array Oper) (acts E : List Nat) (J : Nat → World → Prop) (R : List (GFact G)) (D : List (List (Nat × Nat))) (w : World) (a0 : Act) : Nat → List Oper → Prop
  | _,[] => True
  | i,o :: r => (if acts.contains i then ∀ W,Only G w W → J (rank acts i) W → ggiven R W (fun a1 => wpList P ops (ActPost G J (rank acts i + 1) a0.defers W o (gfactAt R i)) [o] a1 W) (D.getD i []) a0
      else if E.contains i then ∀ W,Only G w W → J 0 W → ggiven R W (fun a1 => wpList P ops (ActPost G J 0 a0.defers W o (gfactAt R i)) [o] a1 W) (D.getD i []) a0
      else ∀ p W,Only G w W → J p W → ggiven R W (fun a1 => wpList P ops (ActPost G J p a0.defers W o (gfactAt R i)) [o] a1 W) (D.getD i []) a0) ∧ eobs P ops acts E J R D w a0 (i + 1) r
theorem XP {ops : Array Oper} : ∀ (l : List Oper) (k : Nat),eobs P ops acts E J R D w a0 k l → ∀ j o,l[j]? = some o →
    if acts.contains (k + j) then ∀ W,Only G w W → J (rank acts (k + j)) W → ggiven R W (fun a1 => wpList P ops (ActPost G J (rank acts (k + j) + 1) a0.defers W o (gfactAt R (k + j))) [o] a1 W) (D.getD (k + j) []) a0
      else if E.contains (k + j) then ∀ W,Only G w W → J 0 W → ggiven R W (fun a1 => wpList P ops (ActPost G J 0 a0.defers W o (gfactAt R (k + j))) [o] a1 W) (D.getD (k + j) []) a0
      else ∀ p W,Only G w W → J p W → ggiven R W (fun a1 => wpList P ops (ActPost G J p a0.defers W o (gfactAt R (k + j))) [o] a1 W) (D.getD (k + j) []) a0
  | [],_,_,j,o,h => by simp at h
  | x :: l,k,ho,0,o,h => by
    simp at h;subst h
    exact ho.1
  | x :: l,k,ho,j + 1,o,h => by
    have:=XP l (k + 1) ho.2 j o (by simpa using h)
    rw [show k + (j + 1) = k + 1 + j by omega]
    exact this
theorem zN {ops : Array Oper} {i : Nat} : eobs P ops acts E J R D w a0 i []:=trivial
theorem lJ {ops : Array Oper} {i : Nat} {o : Oper} {r : List Oper} (hn : acts.contains i = false) (he : E.contains i = false) (h : ∀ p W,Only G w W → J p W → ggiven R W (fun a1 => wpList P ops (ActPost G J p a0.defers W o (gfactAt R i)) [o] a1 W) (D.getD i []) a0) (hr : eobs P ops acts E J R D w a0 (i + 1) r) : eobs P ops acts E J R D w a0 i (o :: r) :=
  ⟨by rw [if_neg (by rw [hn];decide),if_neg (by rw [he];decide)];exact h,hr⟩
theorem j9 {ops : Array Oper} {i : Nat} {o : Oper} {r : List Oper} (hn : acts.contains i = false) (he : E.contains i = true) (h : ∀ W,Only G w W → J 0 W → ggiven R W (fun a1 => wpList P ops (ActPost G J 0 a0.defers W o (gfactAt R i)) [o] a1 W) (D.getD i []) a0) (hr : eobs P ops acts E J R D w a0 (i + 1) r) : eobs P ops acts E J R D w a0 i (o :: r) :=
  ⟨by rw [if_neg (by rw [hn];decide),if_pos he];exact h,hr⟩
theorem qI {ops : Array Oper} {i : Nat} {o : Oper} {r : List Oper} (q : Nat) (hq : rank acts i = q) (hn : acts.contains i = true) (h : ∀ W,Only G w W → J q W → ggiven R W (fun a1 => wpList P ops (ActPost G J (q + 1) a0.defers W o (gfactAt R i)) [o] a1 W) (D.getD i []) a0) (hr : eobs P ops acts E J R D w a0 (i + 1) r) : eobs P ops acts E J R D w a0 i (o :: r) :=
  ⟨by rw [if_pos hn,hq];exact h,hr⟩
theorem qL {id : Nat} (G : Nat → Prop) (acts E : List Nat) (J : Nat → World → Prop) (R : List (GFact G)) (D : List (List (Nat × Nat))) (every : List (Nat × Nat)) (hm : P.follows .mixedOrders = true) (hok : partsOk l.toArray D every a0.tmps.size = true)
    (hacts : actsOk l acts = true) (hearly : earlyOk l acts E = true) (hnd : acts.Nodup) (h0 : J 0 w.drew) (hob : eobs P l.toArray acts E J R D w a0 0 l) (hend : ∀ W,Only G w W → J acts.length W → ggiven R W (fun a => Q .normal a W) every a0) : (Code.region id l.toArray true).wp P Q a0 w:=by
  unfold partsOk at hok
  simp only [Bool.and_eq_true] at hok
  have ok : ∀ i o,l.toArray[i]? = some o → OpOk l.toArray D every a0.tmps.size i o:=fun i o hi => OpOk.of (by
    have:=List.all_eq_true.1 hok.1 i (List.mem_range.2 (Array.getElem?_eq_some_iff.1 hi).1)
    rw [hi] at this
    exact this)
  have hev : ∀ p ∈ every,∃ oj,l.toArray[p.1]? = some oj ∧ oj.dst = some p.2:=fun p hp => by
    have:=List.all_eq_true.1 hok.2 p hp
    obtain ⟨oj,h6,h7⟩:=Option.bind_eq_some_iff.1 (beq_iff_eq.1 this)
    exact ⟨oj,h6,h7⟩
  have hacts2 : ∀ i ∈ acts,i < l.length:=fun i hi => by
    have:=List.all_eq_true.1 hacts i hi
    rw [Bool.and_eq_true] at this
    simpa using this.1
  have hback : ∀ i o,l[i]? = some o → ∀ e ∈ o.after,Region.binds .any e = true → e.on < i:=fun i o hi => (ok i o (by simpa using hi)).back
  refine wp_region_any hm (acts_any hacts2 ok hev (fun i o hi listed a W h hr => ?_) hend l.toArray.size _ a0 _ ⟨by simp,⟨rfl,rfl,rfl,Nat.le_refl _,fun _ _ _ => rfl⟩,?_,rfl,rfl,fun j oj d hj _ hl => ?_,fun _ _ => rfl,fun j oj hj hl => ?_⟩ (by simp))
  · have h1:=XP l 0 hob i o (by simpa using hi)
    rw [Nat.zero_add] at h1
    obtain ⟨hl,o',hi',hall'⟩:=mem_ready.1 hr
    have hall : ∀ e ∈ o.after,Region.binds .any e = true → listed.getD e.on false = true:=by
      rw [hi] at hi';cases hi';exact hall'
    have hilt : i < listed.size:=by rw [h.size];have:=(Array.getElem?_eq_some_iff.1 hi).1;simpa using this
    have hlf : listed.getD i false = false:=by
      simp [hilt] at hl ⊢;exact hl
    by_cases ha : i ∈ acts
    · rw [if_pos (by simpa using ha)] at h1
      have hp:=act_ready hback hacts (by simpa using hi) ha h hall hlf
      rw [QR hnd ha hilt hlf,hp]
      exact h1 W h.ext (by rw [← hp];exact h.ph)
    · rw [if_neg (by simpa using ha)] at h1
      rw [vG acts listed i ha]
      by_cases hE : i ∈ E
      · rw [if_pos (by simpa using hE)] at h1
        have hp0:=LS hback hearly hE h hlf
        rw [hp0]
        exact h1 W h.ext (by rw [← hp0];exact h.ph)
      · rw [if_neg (by simpa using hE)] at h1
        exact h1 _ W h.ext h.ph
  · have : phase acts (Array.replicate l.toArray.size false) = 0:=by
      unfold phase
      refine List.countP_eq_zero.2 fun j hj => ?_
      have:=hacts2 j hj
      simp [this]
    rw [this];exact h0
  all_goals
    exfalso
    have hlt : j < l.toArray.size:=(Array.getElem?_eq_some_iff.1 hj).1
    have hlt2 : j < l.length:=by simpa using hlt
    simp [hlt2] at hl
end
theorem xG {G : Nat → Prop} {J : Nat → World → Prop} {p : Nat} {D : List Deferred} {W W' : World} {o : Oper} {a : Act} (hd : a.defers = D) (hb : Only G W W') (hj : J p W') : ActPost G J p D W o (GFact.any G) .normal a W':=⟨hd,hb,hj,trivial⟩
theorem Only.set {G : Nat → Prop} {W : World} {g k : Nat} {v : Value} (hg : G g) : Only G W (W.setCell ⟨g,k,none⟩ v):=Only.of_grown (g:=g) (jX (jS _ _)) hg
def Fact.row {α : Type} (f : α → Value) (n : Nat) (l : List α) : Fact:=⟨fun v w => ∃ A cap,v = .slice A n cap ∧ Row f w w.heap.size A n l,fun _ _ _ hb ⟨A,cap,hv,hr⟩ => ⟨A,cap,hv,(hr.below hb).more hb.size⟩⟩
def Hp (w : World) (K : Nat → Prop) (g : Nat) (l : List Int) : Prop:=Var w K g 129 3 (l.map intV)
set_option maxRecDepth 100000 in
set_option maxHeartbeats 800000 in
theorem yG (K : Nat → Prop) (g n : Nat) (l : List Int) (w : World) (hk : Hp w K g l) (hn : l.length = n) :
    Calls Tryd.prog 71 #[.pointer (some ⟨g,0,none⟩)] w fun e w' => e = .returned (.int .i64 (n : Int)) ∧ w = w':=by
  obtain ⟨A,c,hc,_,hnc,hcm,_⟩:=Var.opens hk hn
  unfold maxLen at hcm
  clear hk hn
  go_enter Tryd.func71,Tryd.ntmps71
  go_wp2
  go_ret
  exact ⟨rfl,rfl⟩
set_option maxRecDepth 100000 in
set_option maxHeartbeats 800000 in
theorem jY (K : Nat → Prop) (g n i j : Nat) (l : List Int) (w : World) (hk : Hp w K g l) (hn : l.length = n) (hi : i < n) (hj : j < n) (b : Bool) (hb : decide (H.at_ l i < H.at_ l j) = b) :
    Calls Tryd.prog 102 #[.pointer (some ⟨g,0,none⟩),.int .i64 (i : Int),.int .i64 (j : Int)] w fun e w' => e = .returned (.bool b) ∧ ∃ m,w' = w.drewN m:=by
  obtain ⟨A,c,hc,_,hnc,hcm,hr,_,hblk⟩:=Var.opens hk hn
  obtain ⟨r,cur,rfl,_⟩:=hblk (by omega)
  unfold maxLen at hcm
  have h1 : w.cell? ((⟨r,0,none⟩ : Addr).add i) = some (.int .i64 (H.at_ l i)):=by
    obtain ⟨ad,x,e,_,hx,hcx⟩:=hr.get hi
    cases e
    rw [hcx,H.at_of hx];rfl
  have h2 : w.cell? ((⟨r,0,none⟩ : Addr).add j) = some (.int .i64 (H.at_ l j)):=by
    obtain ⟨ad,x,e,_,hx,hcx⟩:=hr.get hj
    cases e
    rw [hcx,H.at_of hx];rfl
  rw [q5] at h1 h2
  generalize H.at_ l i = x at *
  generalize H.at_ l j = y at *
  have HB:=kp hb
  clear hk hn hr hblk hb
  go_enter Tryd.func102,Tryd.ntmps102
  go_wp2
  go_quiet (fail)
  go_wp2
  go_ret
  exact ⟨jG HB.out,_,rfl⟩
set_option maxRecDepth 100000 in
set_option maxHeartbeats 1600000 in
theorem qS (K : Nat → Prop) (g n i j : Nat) (l : List Int) (w : World) (hk : Hp w K g l) (hn : l.length = n) (hi : i < n) (hj : j < n) :
    Calls Tryd.prog 105 #[.pointer (some ⟨g,0,none⟩),.int .i64 (i : Int),.int .i64 (j : Int)] w fun e w' => e = .returned (.tuple #[]) ∧ Hp w' K g (H.swap l i j) ∧ Held K w w':=by
  have hlt:=hk.lt
  have hng:=hk.not
  obtain ⟨A,c,hc0,hblk,hnc,hcm,hr,hown,hb⟩:=Var.opens hk hn
  obtain ⟨r,cur,rfl,hrb,hcl,hct,hrg,hrk⟩:=hb (by omega)
  have h1 : cur[i]? = some (.int .i64 (H.at_ l i)):=by
    have h:=congrArg (fun q : List Value => q[i]?) hct
    simp only [List.getElem?_take,if_pos hi,List.getElem?_map,H.at_some (show i < l.length by omega)] at h
    exact h
  have h2 : cur[j]? = some (.int .i64 (H.at_ l j)):=by
    have h:=congrArg (fun q : List Value => q[j]?) hct
    simp only [List.getElem?_take,if_pos hj,List.getElem?_map,H.at_some (show j < l.length by omega)] at h
    exact h
  have h3 : ∃ z,(cur.set i (.int .i64 (H.at_ l j)))[j]? = some (.int .i64 z):=by
    rw [List.getElem?_set]
    by_cases hij : i = j
    · subst hij
      exact ⟨_,by rw [if_pos rfl,if_pos (by omega)]⟩
    · exact ⟨_,by rw [if_neg hij];exact h2⟩
  have HEnd : Kept (∀ W,Only (fun k => k = r) w W → Blk W r 3 ((cur.set i (.int .i64 (H.at_ l j))).set j (.int .i64 (H.at_ l i))) → Hp W K g (H.swap l i j) ∧ Held K w W):=kp fun W hO hb2 => by
    refine ⟨⟨_,hO.blk hblk (fun e => hrg e.symm),?_,fun e => hrg (by cases e;rfl),hng,fun k hk => by cases hk;exact hrk,fun k hk => Nat.lt_of_lt_of_le (hlt k hk) hO.size⟩,⟨hO.os,hO.tape,hO.output,hO.size,fun k hk => hO.block k (hlt k hk) fun e => hrk (by rw [← e];exact hk)⟩⟩
    have ho:=Blk.own (B:=0) (xs:=(H.swap l i j).map intV) hb2 (Nat.zero_le _) (cap:=c) (by simpa using hcl) (by rw [List.length_map,H.swap_len];omega) hcm (by
      rw [List.length_map,H.swap_len,hn,List.take_set,List.take_set,hct]
      unfold H.swap
      rw [List.map_set,List.map_set];rfl)
    rw [List.length_map,H.swap_len,hn] at ho
    exact ho
  unfold maxLen at hcm
  have HK:=kp hblk;have HR:=kp hrb;have HCi:=kp h1;have HCj:=kp h2;have HGr:=kp hrg
  obtain ⟨z,h3⟩:=h3
  have HCj1:=kp h3
  generalize H.at_ l i = x at *
  generalize H.at_ l j = y at *
  have hin : (i : Int) < (n : Int):=by omega
  have hjn : (j : Int) < (n : Int):=by omega
  clear hk hn hr hown hb hct hblk hrb h1 h2 h3 hlt hng hrk hrg hc0
  go_enter Tryd.func105,Tryd.ntmps105
  go_wp2
  apply qL (fun k => k = r) [21,23] [0,1,2,3,4,5,6,8,9,10,11,12,13,14,15,16,17,18,19,20] (phs ([fun W => Blk W r 3 cur,fun W => Blk W r 3 (cur.set i (.int .i64 y)),fun W => Blk W r 3 ((cur.set i (.int .i64 y)).set j (.int .i64 x))])) (.is _ :: .is _ :: .is _ :: .is _ :: .is _ :: .is _ :: .is _ :: .is _ :: .is _ :: .is _ :: .is _ :: .is _ :: .is _ :: .is _ :: .is _ :: .is _ :: .is _ :: .is _ :: .is _ :: .is _ :: .is _ :: .any _ :: .is _ :: .any _ :: [])
    [[],[(0,6)],[(1,7)],[],[],[(4,10)],[(5,11)],[],[],[(8,14)],[(9,15)],[],[(10,16),(11,17)],[(12,18)],[],[(14,20)],[(15,21)],[],[(16,22),(17,23)],[(18,24)],[(2,8),(3,9)],[(20,26),(13,19)],[(6,12),(7,13)],[(22,27),(19,25)]]
    [(0,6),(1,7),(2,8),(3,9),(4,10),(5,11),(6,12),(7,13),(8,14),(9,15),(10,16),(11,17),(12,18),(13,19),(14,20),(15,21),(16,22),(17,23),(18,24),(19,25),(20,26),(22,27)] (by kernel_rfl) (by kernel_rfl) (by kernel_rfl) (by kernel_rfl) (by decide)
  case h0 => exact HR.out
  case hob =>
    refine j9 rfl rfl ?o0 (j9 rfl rfl ?o1 (j9 rfl rfl ?o2 (j9 rfl rfl ?o3 (j9 rfl rfl ?o4 (j9 rfl rfl ?o5 (j9 rfl rfl ?o6 (lJ rfl rfl ?o7 (j9 rfl rfl ?o8 (j9 rfl rfl ?o9 (j9 rfl rfl ?o10 (j9 rfl rfl ?o11 (j9 rfl rfl ?o12 (j9 rfl rfl ?o13 (j9 rfl rfl ?o14 (j9 rfl rfl ?o15 (j9 rfl rfl ?o16 (j9 rfl rfl ?o17 (j9 rfl rfl ?o18 (j9 rfl rfl ?o19 (j9 rfl rfl ?o20 (qI 0 rfl rfl ?o21 (lJ rfl rfl ?o22 (qI 1 rfl rfl ?o23 (zN))))))))))))))))))))))))
    case o0 => intro W hO hJ;change wpList _ _ _ _ _ _;go_wp2;exact jA rfl rfl rfl hJ
    case o1 => intro W hO hJ;rintro _ rfl;change wpList _ _ _ _ _ _;go_wp2;exact jA rfl rfl rfl hJ
    case o2 =>
      intro W hO hJ;rintro _ rfl;change wpList _ _ _ _ _ _
      have hc:=(hO.blk HK.out (fun e => HGr.out e.symm)).cell 0
      go_wp2;exact jA rfl rfl rfl hJ
    case o3 => intro W hO hJ;change wpList _ _ _ _ _ _;go_wp2;exact jA rfl rfl rfl hJ
    case o4 => intro W hO hJ;change wpList _ _ _ _ _ _;go_wp2;exact jA rfl rfl rfl hJ
    case o5 => intro W hO hJ;rintro _ rfl;change wpList _ _ _ _ _ _;go_wp2;exact jA rfl rfl rfl hJ
    case o6 =>
      intro W hO hJ;rintro _ rfl;change wpList _ _ _ _ _ _
      have hc:=(hO.blk HK.out (fun e => HGr.out e.symm)).cell 0
      go_wp2;exact jA rfl rfl rfl hJ
    case o7 => intro p W hO hJ;change wpList _ _ _ _ _ _;go_wp2;exact jA rfl rfl rfl hJ
    case o8 => intro W hO hJ;change wpList _ _ _ _ _ _;go_wp2;exact jA rfl rfl rfl hJ
    case o9 => intro W hO hJ;rintro _ rfl;change wpList _ _ _ _ _ _;go_wp2;exact jA rfl rfl rfl hJ
    case o10 =>
      intro W hO hJ;rintro _ rfl;change wpList _ _ _ _ _ _
      have hc:=(hO.blk HK.out (fun e => HGr.out e.symm)).cell 0
      go_wp2;exact jA rfl rfl rfl hJ
    case o11 => intro W hO hJ;change wpList _ _ _ _ _ _;go_wp2;exact jA rfl rfl rfl hJ
    case o12 => intro W hO hJ;rintro _ rfl;rintro _ rfl;change wpList _ _ _ _ _ _;go_wp2;exact jA rfl rfl rfl hJ
    case o13 =>
      intro W hO hJ;rintro _ rfl;change wpList _ _ _ _ _ _
      have hc:=((show Blk W r 3 cur from hJ).cell j).trans HCj.out
      go_wp2;exact jA rfl rfl rfl hJ
    case o14 => intro W hO hJ;change wpList _ _ _ _ _ _;go_wp2;exact jA rfl rfl rfl hJ
    case o15 => intro W hO hJ;rintro _ rfl;change wpList _ _ _ _ _ _;go_wp2;exact jA rfl rfl rfl hJ
    case o16 =>
      intro W hO hJ;rintro _ rfl;change wpList _ _ _ _ _ _
      have hc:=(hO.blk HK.out (fun e => HGr.out e.symm)).cell 0
      go_wp2;exact jA rfl rfl rfl hJ
    case o17 => intro W hO hJ;change wpList _ _ _ _ _ _;go_wp2;exact jA rfl rfl rfl hJ
    case o18 => intro W hO hJ;rintro _ rfl;rintro _ rfl;change wpList _ _ _ _ _ _;go_wp2;exact jA rfl rfl rfl hJ
    case o19 =>
      intro W hO hJ;rintro _ rfl;change wpList _ _ _ _ _ _
      have hc:=((show Blk W r 3 cur from hJ).cell i).trans HCi.out
      go_wp2;exact jA rfl rfl rfl hJ
    case o20 => intro W hO hJ;rintro _ rfl;rintro _ rfl;change wpList _ _ _ _ _ _;go_wp2;exact jA rfl rfl rfl hJ
    case o21 =>
      intro W hO hJ;rintro _ rfl;rintro _ rfl;change wpList _ _ _ _ _ _
      have hRW : Blk W r 3 cur:=hJ
      have hc:=(hRW.cell i).trans HCi.out
      have hf:=hRW.frozen i
      have HRn:=kp (hRW.set i (.int .i64 y))
      clear hJ hRW
      go_wp2
      exact xG rfl (Only.set rfl) HRn.out
    case o22 => intro p W hO hJ;rintro _ rfl;rintro _ rfl;change wpList _ _ _ _ _ _;go_wp2;exact jA rfl rfl rfl hJ
    case o23 =>
      intro W hO hJ;rintro _ rfl;rintro _ rfl;change wpList _ _ _ _ _ _
      have hRW : Blk W r 3 (cur.set i (.int .i64 y)):=hJ
      have hc:=(hRW.cell j).trans HCj1.out
      have hf:=hRW.frozen j
      have HRn:=kp (hRW.set j (.int .i64 x))
      clear hJ hRW
      go_wp2
      exact xG rfl (Only.set rfl) HRn.out
  case hend =>
    intro W hO hJ;rintro _ rfl;rintro _ rfl;rintro _ rfl;rintro _ rfl;rintro _ rfl;rintro _ rfl;rintro _ rfl;rintro _ rfl;rintro _ rfl;rintro _ rfl;rintro _ rfl;rintro _ rfl;rintro _ rfl;rintro _ rfl;rintro _ rfl;rintro _ rfl;rintro _ rfl;rintro _ rfl;rintro _ rfl;rintro _ rfl;rintro _ rfl;rintro _ rfl
    simp only [ggiven,jI,List.set]
    have HW:=kp (HEnd.out W hO (show Blk W r 3 ((cur.set i (.int .i64 y)).set j (.int .i64 x)) from hJ))
    clear hO hJ
    go_wp2
    go_end0
    exact ⟨rfl,HW.out⟩
theorem uY (x : Int) (w : World) : (Instr.typeAssert (.iface 3 (.int .i64 x)) 20 3 true).run Tryd.prog w = .ok (.tuple #[.int .i64 x,.bool true]) w:=by kernel_rfl
def hpV (g : Nat) : Value:=.iface 128 (.pointer (some ⟨g,0,none⟩))
set_option maxRecDepth 100000 in
set_option maxHeartbeats 800000 in
theorem QY (K : Nat → Prop) (g : Nat) (x : Int) (l : List Int) (w : World) (hk : Hp w K g l) (hn : l.length ≤ 1000000) :
    Calls Tryd.prog 104 #[.pointer (some ⟨g,0,none⟩),.iface 3 (.int .i64 x)] w fun e w' => e = .returned (.tuple #[]) ∧ Hp w' K g (l ++ [x]) ∧ Held K w w':=by
  obtain ⟨v,hblk,hown,hne,hS1,hS2,hS3⟩:=hk
  have HK:=kp hblk;have HO:=kp hown;have HNe:=kp hne
  have HS1:=kp hS1;have HS2:=kp hS2;have HS3:=kp hS3
  have hc : w.cell? ⟨g,0,none⟩ = some v:=hblk.cell 0
  have hgs:=hblk.lt
  clear hblk hown hne hS1 hS2 hS3
  have hta:=uY x w
  go_enter Tryd.func104,Tryd.ntmps104
  go_wp2_with (first
    | (at_builtin;go_must (refine jO rfl (.tmp 15) (.tmp 17) 129 rfl 0 3 _ _ Tryd.underlying129 q6 rfl _ v _ _ rfl HO.out _ 1 rfl rfl rfl (by simp [maxLen];omega) (by simp;omega) (Nat.zero_le _) ?_);intro v1 w1 hown1 hg1
       have HK1:=kp (HK.out.grown hg1.1 (fun e => HNe.out e.symm))
       have hf1:=HK1.out.frozen 0
       have hc1 : w1.cell? ⟨g,0,none⟩ = some v:=HK1.out.cell 0
       have HO1:=kp hown1;have HG1:=kp hg1
       obtain ⟨A1,c1,e1,_⟩:=hown1.form
       generalize (List.map intV l ++ [Value.int IntKind.i64 x]).length = n1 at e1
       subst e1
       clear hown1 hg1 hc))
  go_end0
  have hsz:=HG1.out.size
  have hne1 : (Value.slice A1 n1 c1).ownBlock ≠ some g:=by
    rcases HG1.out.2 with h | h
    · rw [h];exact HNe.out
    · intro e
      have:=h g e
      omega
  refine ⟨rfl,⟨_,HK1.out.set 0 _,?_,hne1,HS1.out,fun k hk hs => ?_,fun k hk => ?_⟩,?_⟩
  · rw [List.map_append]
    exact HO1.out.far (jX (g:=g) (jS _ _)) (.inr hne1)
  · rcases HG1.out.2 with h | h
    · exact HS2.out k (by rw [← h];exact hk) hs
    · have:=h k hk
      have:=HS3.out k hs
      omega
  · have:=HS3.out k hk
    simp;omega
  · refine (Held.of_grown (row:=v.ownBlock) HG1.out.1 fun k hk => ⟨HS3.out k hk,fun e => HS2.out k e.symm hk⟩).trans (Held.of_grown (row:=some g) (jX (jS _ _)) fun k hk => ⟨?_,fun e => ?_⟩)
    · have:=HS3.out k hk;omega
    · cases e;exact HS1.out hk
set_option maxRecDepth 100000 in
set_option maxHeartbeats 800000 in
theorem YM (K : Nat → Prop) (g m : Nat) (l : List Int) (w : World) (hk : Hp w K g l) (hn : l.length = m + 1) :
    Calls Tryd.prog 103 #[.pointer (some ⟨g,0,none⟩)] w fun e w' => e = .returned (.iface 3 (.int .i64 (H.at_ l m))) ∧ Hp w' K g (l.take m) ∧ Held K w w':=by
  have hlt:=hk.lt
  have hng:=hk.not
  obtain ⟨A,c,hc,hblk,hnc,hcm,hr,hown,hb⟩:=Var.opens hk hn
  obtain ⟨r,cur,rfl,hrb,hcl,hct,hrg,hrk⟩:=hb (by omega)
  have hx : w.cell? ⟨r,m,none⟩ = some (.int .i64 (H.at_ l m)):=by
    obtain ⟨ad,x,e,_,hx,hcx⟩:=hr.get (show m < m + 1 by omega)
    cases e
    rw [q5] at hcx
    rw [hcx,H.at_of hx];rfl
  have HEnd : Kept (Hp (w.setCell ⟨g,0,none⟩ (.slice (some ⟨r,0,none⟩) m c)) K g (l.take m) ∧ Held K w (w.setCell ⟨g,0,none⟩ (.slice (some ⟨r,0,none⟩) m c))):=kp <| by
    refine ⟨⟨_,hblk.set 0 _,?_,fun e => hrg (by cases e;rfl),hng,fun k hk => by cases hk;exact hrk,fun k hk => by have:=hlt k hk;simp;omega⟩,Held.of_grown (row:=some g) (jX (jS _ _)) fun k hk => ⟨hlt k hk,fun e => hng (by cases e;exact hk)⟩⟩
    have h1:=(hown.front (m:=m) (by omega)).far (jX (g:=g) (k:=0) (v:=.slice (some ⟨r,0,none⟩) m c) (jS _ _)) (.inr fun e => hrg (by cases e;rfl))
    rwa [List.map_take]
  have hf:=hblk.frozen 0
  generalize H.at_ l m = x at *
  unfold maxLen at hcm
  clear hk hn hr hown hb hct hblk hrb hlt hng hrk hrg
  go_enter Tryd.func103,Tryd.ntmps103
  go_wp2_with ((with_reducible show Sl 21);go_must (refine yQ rfl 129 (.tmp 19) (.tmp 20) rfl 3 Tryd.underlying129 xX (some ⟨r,0,none⟩) (m + 1) c rfl .i64 m rfl (by omega) ?_))
  go_ret
  exact ⟨rfl,HEnd.out⟩
theorem JW {p : Pg} (hs : Q.small p = true) {f : Nat} {fn : Fn} (h : p.fns[f]? = some fn) : fn.nodes.length ≤ 100:=by
  unfold Q.small at hs
  rw [Bool.and_eq_true] at hs
  simpa using List.all_eq_true.1 hs.2 fn (List.mem_of_getElem? h)
theorem args_i64 {l : List Nd} {kind : Int} (h : ∀ x ∈ l,x.Ok) : ∀ y ∈ argsL l kind,I64 y:=fun y hy => by
  obtain ⟨nd,h1,_,rfl⟩:=Q5.1 hy
  exact (h nd h1).arg
def yM (p : Pg) (ms : List Nat) (i : Nat) : Prop:=ms.length = p.len ∧ ∀ (f : Nat) (fn : Fn) (m : Nat),f < i → p.fns[f]? = some fn → ms[f]? = some m → BitsAre m (Names fn.nodes 7)
theorem yM.step {p : Pg} {ms : List Nat} {i m : Nat} {fn : Fn} (h : yM p ms i) (hf : p.fns[i]? = some fn) (hm : BitsAre m (Names fn.nodes 7)) : yM p (ms.set i m) (i + 1):=by
  refine ⟨by rw [List.length_set];exact h.1,fun f fn' m' hfi hfn hm' => ?_⟩
  rw [List.getElem?_set] at hm'
  by_cases e : i = f
  · subst e
    rw [if_pos rfl] at hm'
    split at hm'
    · cases hm'
      rw [hf] at hfn;cases hfn
      exact hm
    · cases hm'
  · rw [if_neg e] at hm'
    exact h.2 f fn' m' (by omega) hfn hm'
set_option maxRecDepth 100000 in
set_option maxHeartbeats 1600000 in
theorem yO (B : Nat) (p : Pg) (w : World) (hp : p.Ok w B) (hB : B ≤ w.heap.size) (hs : Q.small p = true) (_h32 : p.len ≤ 32) :
    Calls Tryd.prog 61 #[pgA p] w fun e w' => ∃ (v : Value) (ms : List Nat),e = .returned v ∧ ms.length = p.len ∧ (∀ (f : Nat) (fn : Fn) (m : Nat),p.fns[f]? = some fn → ms[f]? = some m → BitsAre m (Names fn.nodes 7)) ∧ Own w' w.heap.size 53 v (ms.map wordV) ∧ Below w.heap.size w w':=by
  have HP:=kp hp;have HS:=kp hs
  have hlen:=hp.row.len
  have HLen:=kp hlen
  have hlc:=hp.lc;have hcm:=hp.cm
  unfold maxLen at hcm
  have hcm9 : p.cap ≤ 9223372036854775807:=by omega
  clear hp hcm hs hlen
  rw [jM]
  go_enter Tryd.func61,Tryd.ntmps61
  go_wp2_with (first
    | ((with_reducible refine j4 rfl 24 (.tmp 0) rfl (pgC p) rfl ?_);intro g1 w1 hg1 hk1 hw1;have HK1:=kp hk1;obtain ⟨hc0,hc1,hc2,hc3⟩:=j8 hk1;have HW1:=kp hw1;have hs1:=hw1.size;clear hg1 hk1 hw1)
    | ((with_reducible show Sl 9);go_must (refine l9 rfl 54 (.tmp 8) (.tmp 8) rfl 53 (.int .u32 0) 4 Tryd.underlying54 lV rfl .i64 .i64 p.len p.len rfl rfl (Nat.le_refl _) (by omega) (by omega) ?_);intro r w2 hr2 hk2 hw2;have HR2 : Kept (w.heap.size ≤ r):=kp (Nat.le_trans hs1 hr2);have HK2:=kp hk2;have HB2:=kp (HW1.out.trans (hw2.mono hs1));have HK1b:=kp (HK1.out.below hw2 HK1.out.lt);clear hr2 hk2 hw2 hc0 hc1 hc2 hc3;obtain ⟨hc0,hc1,hc2,hc3⟩:=j8 HK1b.out))
  go_loopw [13] (fun v13 wr => ∃ (i : Nat) (ms : List Nat),i ≤ p.len ∧ v13 = .int .i64 i ∧ yM p ms i ∧ Blk wr r 53 (ms.map wordV) ∧ Below w.heap.size w wr) (fun v13 _ => p.len - (intOf v13).toNat)
  case atStart => exact ⟨0,List.replicate p.len 0,by omega,rfl,⟨by simp,fun f fn m hf => by omega⟩,by rw [List.map_replicate];exact HK2.out,HB2.out⟩
  case round =>
    clear HK1 HK1b HW1 HK2 HB2 hc0 hc1 hc2 hc3
    obtain ⟨i,ms,hi,rfl,hms,hk,hbw⟩:=hrel
    have HMs:=kp hms;have HK:=kp hk;have HBw:=kp hbw
    have hsz:=hbw.size
    by_cases hlt : i < p.len
    · obtain ⟨ad,fn,e0,_,hfn,hfok,hcf⟩:=(HP.out.below (hbw.mono hB)).fn hlt
      rw [e0]
      have HFn:=kp hfn;have HFok:=kp hfok
      have hfl100:=JW HS.out hfn
      have hfl:=hfok.nodes.1.len
      have hfl' : fn.len ≤ 1000000:=by omega
      have hfcm:=hfok.cm
      have hflc:=hfok.lc
      unfold maxLen at hfcm
      have hml:=hms.1
      obtain ⟨q,hq⟩ : ∃ q,ms[i]? = some q:=⟨ms[i]'(by omega),List.getElem?_eq_getElem (by omega)⟩
      have HQ:=kp hq
      have hBr : B ≤ wr.heap.size:=Nat.le_trans hB hsz
      have HE0:=kp e0
      obtain ⟨n4,hn4⟩ : ∃ n4,(argsL fn.nodes 7).length = n4:=⟨_,rfl⟩
      have hn4le : n4 ≤ 1000000:=by rw [← hn4];have:=Q6 fn.nodes 7;omega
      have HN4:=kp hn4
      clear hms hk hbw hfn hfok hq hn4 e0 hfl hfl100
      go_wp2_with (first
        | (go_at_call 74;go_must (refine (LQ B fn.A fn.len fn.cap fn.nodes 7 wr HFok.out.nodes hfl' hBr).mono ?_);rintro e w4 ⟨v4,rfl,hown4,hb4⟩
           obtain ⟨A4,c4,rfl,hc4,hm4,hr4⟩:=Own.readsN hown4 HN4.out
           have HR4:=kp hr4;have HB4:=kp hb4;have HKr:=kp (HK.out.below hb4 HK.out.lt)
           clear hown4 hr4 hb4 hm4)
        | (go_at_call 73;go_must (refine (LP _ A4 n4 c4 _ w4 HR4.out (args_i64 HFok.out.nodes.2) hn4le).mono ?_);rintro e w5 ⟨m,rfl,hm,rfl⟩
           have HM:=kp (hm.congr fun id _ => XD id)
           have hcr:=HKr.out.cell i
           rw [List.getElem?_map,HQ.out] at hcr
           have hfr:=HKr.out.frozen i
           have hri : (i : Int) < (p.len : Int):=by omega
           clear hm))
      go_roundw
      case rel =>
        refine ⟨i + 1,ms.set i m,by omega,by go_num,HMs.out.step HFn.out HM.out,?_,?_⟩
        · rw [List.map_set]
          exact HKr.out.set i _
        · have hb5:=HBw.out.trans (HB4.out.mono hsz)
          exact ⟨hb5.os,hb5.tape,hb5.output,by simpa using hb5.size,fun k hk => (heap_setCell_other w4 _ k _ (by intro e;have:=HR2.out;simp only at e;omega)).trans (hb5.block k hk)⟩
      case measure => simp [intOf];omega
    · have hie : i = p.len:=by omega
      have HE : Kept (∀ (f : Nat) (fn : Fn) (m : Nat),p.fns[f]? = some fn → ms[f]? = some m → BitsAre m (Names fn.nodes 7)):=kp fun f fn m hf hm => HMs.out.2 f fn m (by have:=(List.getElem?_eq_some_iff.1 hf).1;rw [HLen.out] at this;omega) hf hm
      have HL : Kept (ms.length = p.len):=kp hms.1
      have hge : p.len ≤ i:=by omega
      clear hms hk hbw hlt hie
      go_wp2
      go_ret
      refine ⟨_,ms,rfl,HL.out,HE.out,?_,HBw.out⟩
      have h:=Blk.own (xs:=ms.map wordV) HK.out HR2.out (cap:=p.len) (by rw [List.length_map,HL.out]) (by rw [List.length_map,HL.out];exact Nat.le_refl _) (by unfold maxLen;omega) (List.take_length ..)
      rw [List.length_map,HL.out] at h
      exact h
theorem vW {P : Program} {ops : Array Oper} {rest : List Oper} {o : Oper} {a : Act} {w : World} {Q : Exit → Act → World → Prop} (hgd : o.guard = none) (ty : TypeId) (x : Operand) (ho : o.op = .box ty x)
    (v : Value) (hx : a.eval x = v) (hv : v.cells = #[v])
    (h : ∀ g w',w.heap.size ≤ g → Blk w' g ty [v] → Below w.heap.size w w' → wpList P ops Q rest (a.put o.dst (.pointer (some ⟨g,0,none⟩))) w') : wpList P ops Q (o :: rest) a w:=by
  refine wpList_plain hgd fun K hK => ?_
  unfold Oper.wp
  simp [execOp,ho,hx,Instr.box,newVar,newRow,hv,Result.andThen]
  exact hK _ _ (h _ _ (Nat.le_refl _) (Blk.newAt rfl rfl) ((Below.refl _ _).alloc (Nat.le_refl _) _))
theorem Var.new {w : World} {S : Nat → Prop} {g : Nat} {t e : TypeId} {v : Value} {xs : List Value} (hb : Blk w g t [v]) (ho : Own w 0 e v xs) (hne : v.ownBlock ≠ some g) (hg : ¬ S g) (hS : ∀ k,v.ownBlock = some k → ¬ S k) (hl : ∀ k,S k → k < w.heap.size) : Var w S g t e xs :=
  ⟨v,hb,ho,hne,hg,hS,hl⟩
theorem LG (p a b c : Nat) (A B C : Int) (hA : A = (a : Int)) (hB : B = (b : Int)) (hC : C = (c : Int)) : ((p : Int) * A % B / C).toNat = p * a % b / c:=by
  rw [hA,hB,hC,← Int.natCast_mul,← Int.natCast_emod,← Int.natCast_ediv,Int.toNat_natCast]
def bruijn : List Nat:=[0,1,28,2,29,14,24,3,30,22,20,15,25,17,4,8,31,27,13,23,21,19,16,7,26,12,18,6,11,5,10,9]
def Tab (w : World) : Prop:=Row byteV w 1 (some ⟨0,0,none⟩) 32 bruijn
theorem Tab.below {w w' : World} {B : Nat} (h : Tab w) (hb : Below B w w') (hB : 1 ≤ B) : Tab w':=Row.below h (hb.mono hB)
theorem Tab.size {w : World} (h : Tab w) : 1 ≤ w.heap.size:=by
  obtain ⟨ad,x,e,hb,_,hc⟩:=Row.get h (k:=0) (by omega)
  have:=qB hc
  omega
theorem bruijn_at : ∀ k,k ≤ 31 → bruijn[2 ^ k * 125613361 % 4294967296 / 134217728]? = some k ∧ 2 ^ k * 125613361 % 4294967296 / 134217728 < 32:=by decide
set_option maxRecDepth 100000 in
set_option maxHeartbeats 800000 in
theorem JC (m : Nat) (hm : m < 4294967296) (h0 : m ≠ 0) (k : Nat) (hk : k ≤ 31) (hl : (m &&& (4294967296 - m)) = 2 ^ k) (w : World) (ht : Tab w) :
    -- for function 77
    Calls Tryd.prog 83 #[.int .u32 (m : Int)] w fun e w' => e = .returned (.int .i64 (k : Int)) ∧ w = w':=by
  have HBits : Kept (bits .and .u32 (m : Int) ((4294967296 - m : Nat) : Int) = ((2 ^ k : Nat) : Int)):=kp <| by rw [u32_and_nat m (4294967296 - m) hm (by omega),hl]
  obtain ⟨hb1,hb2⟩:=bruijn_at k hk
  obtain ⟨j,hj⟩ : ∃ j,2 ^ k * 125613361 % 4294967296 / 134217728 = j:=⟨_,rfl⟩
  rw [hj] at hb1 hb2
  obtain ⟨ad,x,e1,_,hx,hc⟩:=Row.get ht hb2
  cases e1
  rw [hb1] at hx
  cases hx
  rw [byteV_def] at hc
  have hp:=uG k hk
  have hneg : -(m : Int) % 4294967296 = ((4294967296 - m : Nat) : Int):=by omega
  have he : (bits .and .u32 (m : Int) (-(m : Int) % 4294967296) * 125613361 % 4294967296 / 134217728).toNat = j:=by
    rw [hneg,HBits.out,← hj]
    generalize 2 ^ k = p
    exact LG p 125613361 4294967296 134217728 125613361 4294967296 134217728 rfl rfl rfl
  have hadd:=q5 0 j
  have hcell : w.cell? ⟨0,(bits .and .u32 (m : Int) (-(m : Int) % 4294967296) * 125613361 % 4294967296 / 134217728).toNat,none⟩ = some (.int .u8 (k : Int)):=by rw [he,← hadd];exact hc
  clear hb1 hl hj ht hneg he hadd hc hb2 HBits
  have hz : ((m : Int) == 0) = false:=by simpa using h0
  go_enter Tryd.func83,Tryd.ntmps83
  go_wp2
  go_ret
  exact ⟨rfl,rfl⟩
set_option maxRecDepth 100000 in
set_option maxHeartbeats 800000 in
theorem YL (m : Nat) (hm : m < 4294967296) (r : Int) (hr : S.least m = r) (w : World) (ht : Tab w) :
    Calls Tryd.prog 77 #[.int .u32 (m : Int)] w fun e w' => e = .returned (.int .i64 r) ∧ w = w':=by
  by_cases h0 : m = 0
  · subst h0
    have HR : Kept (-1 = r):=kp <| by rw [← hr];unfold S.least;rw [S.ids_zero]
    clear hr
    go_enter Tryd.func77,Tryd.ntmps77
    go_wp2
    go_ret
    exact ⟨l7 HR.out,rfl⟩
  · obtain ⟨k,hk,hi,hn,_⟩:=S.low m h0 hm
    have HR : Kept ((k : Int) = r):=kp <| by rw [← hr,S.least_low m k _ hi]
    have HN:=kp hn;have HT:=kp ht
    clear hi hr hn ht
    have hb : ((m : Int) == 0) = false:=by simpa using h0
    go_enter Tryd.func77,Tryd.ntmps77
    go_wp2_with (go_at_call 83;go_must (refine (JC m hm h0 k hk HN.out _ HT.out).mono ?_);rintro e w' ⟨rfl,rfl⟩)
    go_ret
    exact ⟨l7 HR.out,rfl⟩
set_option maxRecDepth 100000 in
set_option maxHeartbeats 800000 in
theorem count_any (m : Nat) (hm : m < 4294967296) (n : Nat) (hn : S.count m = n) (w : World) :
    Calls Tryd.prog 75 #[.int .u32 (m : Int)] w fun e w' => e = .returned (.int .i64 (n : Int)) ∧ w = w':=by
  have hn32 : n ≤ 32:=by rw [← hn];exact S.count_le m
  have HN:=kp hn;clear hn
  go_enter Tryd.func75,Tryd.ntmps75
  go_wp2
  go_loop [0,3] (fun v0 v3 => ∃ q k : Nat,q < 4294967296 ∧ v0 = .int .u32 (q : Int) ∧ v3 = .int .i64 (k : Int) ∧ k ≤ 32 ∧ k + S.count q = n) (fun v0 _ => (intOf v0).toNat)
  case atStart => exact ⟨m,0,hm,rfl,rfl,by omega,by rw [HN.out];omega⟩
  case round =>
    obtain ⟨q,k,hq,rfl,rfl,hk,hkq⟩:=hrel
    by_cases h0 : q = 0
    · subst h0
      have HE : Kept (k = n):=kp <| by rw [← hkq,S.count_zero];rfl
      clear hkq
      go_wp2
      go_ret
      exact ⟨l7 (by rw [HE.out]),rfl⟩
    · have hb : ((q : Int) != 0) = true:=by simpa using h0
      obtain ⟨_,_,_,_,hlt⟩:=S.low q h0 hq
      have hc:=S.count_rest q h0 hq
      have hc2:=S.count_le q
      obtain ⟨r,hr⟩ : ∃ r,S.rest q = r:=⟨_,rfl⟩
      rw [hr] at hlt hc
      have HR:=kp hr
      have HC : Kept (k + 1 + S.count r = n):=kp <| by omega
      have HC32 : Kept (k + 1 ≤ 32):=kp <| by have:=HC.out;omega
      clear hc hr hc2 hkq
      go_wp2_with (go_at_call 76;go_must (refine (L6 q hq h0 r HR.out _).mono ?_);rintro e w' ⟨rfl,rfl⟩)
      go_round
      case rel => exact ⟨r,k + 1,by omega,rfl,by go_num,HC32.out,HC.out⟩
      case measure => simp [intOf];omega
set_option maxRecDepth 100000 in
set_option maxHeartbeats 800000 in
theorem list_any (m : Nat) (hm : m < 4294967296) (w : World) (ht : Tab w) (hw : 1 ≤ w.heap.size) :
    Calls Tryd.prog 62 #[.int .u32 (m : Int)] w fun e w' => ∃ v,e = .returned v ∧ Own w' w.heap.size 3 v ((S.ids m 32).map natV) ∧ Below w.heap.size w w':=by
  have hcl:=S.count_le m
  obtain ⟨n,hn⟩ : ∃ n,S.count m = n:=⟨_,rfl⟩
  rw [hn] at hcl
  have HN:=kp hn;have HT:=kp ht
  clear hn ht
  go_enter Tryd.func62,Tryd.ntmps62
  go_wp2_with (first
    | (go_at_call 75;go_must (refine (count_any m hm n HN.out _).mono ?_);rintro e w' ⟨rfl,rfl⟩)
    | ((with_reducible show Sl 6);go_must (refine l9 rfl 76 (.const (.int .i64 0)) (.tmp 5) rfl 3 (.int .i64 0) 8 Tryd.underlying76 q6 rfl .i64 .i64 0 n rfl rfl (by omega) (by omega) (by omega) ?_);intro g1 w1 hg1 hk1 hw1;have HO1 : Kept (Own w1 w.heap.size 3 (.slice (some ⟨g1,0,none⟩) 0 n) []):=kp (Blk.own (xs:=[]) hk1 hg1 (by simp) (by simp) (by simp [maxLen];omega) (by simp));have HW1:=kp hw1;clear hg1 hk1 hw1))
  go_loopw [0,3] (fun v0 v3 wr => ∃ (q : Nat) (l : List Nat),q < 4294967296 ∧ v0 = .int .u32 (q : Int) ∧ S.ids m 32 = l ++ S.ids q 32 ∧ l.length ≤ 32 ∧ Own wr w.heap.size 3 v3 (l.map natV) ∧ Below w.heap.size w wr) (fun v0 _ _ => (intOf v0).toNat)
  case atStart => exact ⟨m,[],hm,rfl,rfl,by simp,HO1.out,HW1.out⟩
  case round =>
    clear HO1 HW1
    obtain ⟨q,l,hq,rfl,hl,hll,hown,hbl⟩:=hrel
    have hB:=hbl.size
    have HOwn:=kp hown;have HBL:=kp hbl;have HL:=kp hl
    clear hown hbl hl
    by_cases h0 : q = 0
    · subst h0
      have HE : Kept (l = S.ids m 32):=kp <| by rw [HL.out,S.ids_zero,List.append_nil]
      go_wp2
      go_ret
      exact ⟨_,rfl,by rw [← HE.out];exact HOwn.out,HBL.out⟩
    · have hb : ((q : Int) != 0) = true:=by simpa using h0
      obtain ⟨k,hk,hi,hn,hlt⟩:=S.low q h0 hq
      have hls:=S.least_low q k _ hi
      obtain ⟨r,hr⟩ : ∃ r,S.rest q = r:=⟨_,rfl⟩
      have HS:=kp hls
      have HN2 : Kept (S.ids m 32 = (l ++ [k]) ++ S.ids r 32):=kp <| by rw [HL.out,hi,hr];simp
      have hlen : l.length + 1 ≤ 32:=by
        have h1:=S.ids_len m 32
        rw [HN2.out] at h1
        simp at h1
        omega
      rw [hr] at hlt
      have HR:=kp hr
      have HTw : Kept (Tab wr):=kp <| HT.out.below HBL.out hw
      clear hi hn hls hr
      go_wp2_with (first
        | (go_at_call 77;go_must (refine (YL q hq k HS.out _ HTw.out).mono ?_);rintro e w' ⟨rfl,rfl⟩)
        | (at_builtin;go_must (refine jO rfl (.tmp 11) (.tmp 14) 76 rfl w.heap.size 3 _ _ Tryd.underlying76 q6 rfl _ _ _ _ rfl HOwn.out _ 1 rfl rfl rfl (by simp [maxLen];omega) (by simp;omega) hB ?_);intro v1 w1 hown1 hg1;have HO1:=kp hown1;clear hown1;have HG1:=kp hg1;clear hg1)
        | (go_at_call 76;go_must (refine (L6 q hq h0 r HR.out _).mono ?_);rintro e w' ⟨rfl,rfl⟩))
      go_roundw
      case rel => exact ⟨r,l ++ [k],by omega,rfl,HN2.out,by simp;omega,by rw [List.map_append];exact HO1.out,HG1.out.below HBL.out HOwn.out hB⟩
      case measure => simp [intOf];omega
end Go.Proofs.YtoekiejipdabmaaDoor
