/- ScriptP6, ScriptP7, ScriptP8, SeekLaw. -/
import Derived.Test.YtnaomfmmkhgbhaaPk22
import Derived.Test.YtnaomfmmkhgbhaaPk8
import Derived.Test.YtnaomfmmkhgbhaaRaceP4
import Derived.Test.YtnaomfmmkhgbhaaPk16
namespace Go.Proofs.Ytnaomfmmkhgbhaa
open Go.RowKit
theorem uW (a : Act) (v : Value) : a.put none v = a:=rfl
def Fact.twin (K : Nat) (p : Pg) : Fact:=⟨fun v W => ∃ q : Pg,v = pgA q ∧ Twin p q ∧ PgMine W K q,fun _ _ _ hb ⟨q,h1,h2,h3⟩ => ⟨q,h1,h2,h3.below hb⟩⟩
def Fact.picks (K n : Nat) (z : List (Int × Bool)) : Fact:=⟨fun v W => ∃ A c,v = .slice A n c ∧ (n ≤ c ∧ c ≤ maxLen) ∧ OwnR 2 pkV W K 51 v z,fun _ _ _ hb ⟨A,c,h1,h2,h3⟩ => ⟨A,c,h1,h2,h3.below hb (Nat.le_refl _)⟩⟩
theorem OwnR.turn11 {α : Type} {sz : Nat} {f : α → Nat → Value} {w w' : World} {B g : Nat} {e : TypeId} {v : Value} {l : List α} (h : OwnR sz f w B e v l) (hg : w.grownBy w' (some g)) (hB : g < B) : OwnR sz f w' B e v l :=
  h.far hg (by
    cases hv : v.ownBlock with
    | none => exact .inl rfl
    | some b =>
      refine .inr fun e => ?_
      have h1:=(h.block b hv).1
      injection e with e
      omega)
theorem picks_size : (Try.prog.info? 27).map (·.size) = some 1:=by kernel_rfl
theorem OwnR.put11 {α : Type} {sz : Nat} {f : α → Nat → Value} {w : World} {B l : Nat} {e : TypeId} {v : Value} {xs : List α} (h : OwnR sz f w B e v xs) {o0 : Obj} (o : Obj) (hl : w.heap[l]? = some o0) (hc : o0.isCells = false) : OwnR sz f (w.putObj l o) B e v xs :=
  h.far (grownBy_putObj' w l o) (by
    rcases h.2 with ⟨rfl,_⟩ | ⟨g,cap,cur,rfl,_,hg,_⟩
    · exact .inl rfl
    · refine .inr fun e => ?_
      have e1 : g = l:=by have h2 : some g = some l:=e;injection h2
      subst e1
      rw [hl] at hg
      have h2:=Option.some.inj hg
      rw [h2] at hc
      simp [Obj.isCells] at hc)
theorem Blk.notObj {w : World} {g l : Nat} {t : TypeId} {cs : List Value} {o : Obj} (h : Blk w g t cs) (hl : w.heap[l]? = some o) (hc : o.isCells = false) : g ≠ l:=by
  intro e
  subst e
  unfold Blk at h
  rw [hl] at h
  have h2:=Option.some.inj h
  rw [h2] at hc
  simp [Obj.isCells] at hc
theorem Blk.twoNe {w : World} {g g2 : Nat} {t t2 : TypeId} {cs cs2 : List Value} (h : Blk w g t cs) (h2 : Blk w g2 t2 cs2) (hne : t ≠ t2) : g ≠ g2:=by
  intro e
  subst e
  unfold Blk at h h2
  rw [h] at h2
  injection h2 with h2
  injection h2 with _ h3
  exact hne h3
structure SrcMine (W : World) (L gP gL : Nat) (pg : Pg) (A : Option Addr) (n c : Nat) (z : List (Int × Bool)) : Prop where
  pb : Blk W gP 24 (pgC pg)
  lb : Blk W gL 27 [.slice A n c]
  ok : PgMine W L pg
  pk : OwnR 2 pkV W L 51 (.slice A n c) z
  i64 : ∀ x ∈ z,I64 x.1
  lo : L ≤ gP ∧ L ≤ gL
section
variable {W W' : World} {L gP gL : Nat} {pg : Pg} {A : Option Addr} {n c : Nat} {z : List (Int × Bool)}
theorem SrcMine.src (h : SrcMine W L gP gL pg A n c z) : Src W W.heap.size gP gL pg A n c z:=⟨h.pb,h.lb,h.ok.ok,⟨h.pk.recs,h.i64⟩,h.pb.lt,h.lb.lt⟩
theorem SrcMine.below (h : SrcMine W L gP gL pg A n c z) (hb : Below W.heap.size W W') : SrcMine W' L gP gL pg A n c z:=⟨h.pb.below hb h.pb.lt,h.lb.below hb h.lb.lt,h.ok.below hb,h.pk.below hb (Nat.le_refl _),h.i64,h.lo⟩
theorem SrcMine.turn (h : SrcMine W L gP gL pg A n c z) {g : Nat} (hg : W.grownBy W' (some g)) (hL : g < L) : SrcMine W' L gP gL pg A n c z:=by
  have h1:=h.lo
  exact ⟨h.pb.grown hg (fun e => by cases e;omega),h.lb.grown hg (fun e => by cases e;omega),h.ok.turn hg hL,h.pk.turn11 hg hL,h.i64,h.lo⟩
theorem SrcMine.put (h : SrcMine W L gP gL pg A n c z) {l : Nat} {o0 : Obj} (o : Obj) (hl : W.heap[l]? = some o0) (hc : o0.isCells = false) : SrcMine (W.putObj l o) L gP gL pg A n c z :=
  ⟨h.pb.put o (h.pb.notObj hl hc),h.lb.put o (h.lb.notObj hl hc),⟨h.ok.g,h.ok.l,h.ok.s,h.ok.row.put11 o hl hc,⟨fun x hx => (h.ok.fns.own x hx).put11 o hl hc,h.ok.fns.ok⟩,h.ok.nil⟩,h.pk.put11 o hl hc,h.i64,h.lo⟩
theorem OwnR.conf11 {α : Type} {sz : Nat} {f : α → Nat → Value} {B g : Nat} {e : TypeId} {v : Value} {l : List α} {cs : List Value} (h : OwnR sz f W B e v l) (hk : Blk W g 46 cs) (hne : e ≠ 46) (hg : W.grownBy W' (some g)) : OwnR sz f W' B e v l :=
  h.far hg (by
    cases hv : v.ownBlock with
    | none => exact .inl rfl
    | some b =>
      refine .inr fun e => ?_
      injection e with e
      subst e
      exact h.typed hk hne hv)
theorem SrcMine.conf (h : SrcMine W L gP gL pg A n c z) {g : Nat} {cs : List Value} (hk : Blk W g 46 cs) (hg : W.grownBy W' (some g)) : SrcMine W' L gP gL pg A n c z :=
  ⟨h.pb.grown hg (fun e => h.pb.twoNe hk (by decide) (by cases e;rfl)),h.lb.grown hg (fun e => h.lb.twoNe hk (by decide) (by cases e;rfl)),⟨h.ok.g,h.ok.l,h.ok.s,h.ok.row.conf11 hk (by decide) hg,⟨fun x hx => (h.ok.fns.own x hx).conf11 hk (by decide) hg,h.ok.fns.ok⟩,h.ok.nil⟩,h.pk.conf11 hk (by decide) hg,h.i64,h.lo⟩
end
def AlongPost (p : Pg) (n : Nat) (z : List (Int × Bool)) (cc : Nat) (w : World) : Ending → World → Prop:=fun e w' =>
  (cc ≠ 0 ∧ e = .returned (.func (.func 52) #[] #[]) ∨
   cc = 0 ∧ ∃ (gP gL : Nat) (q : Pg) (A : Option Addr) (c : Nat),e = .returned (.func (.func 55) #[] #[.pointer (some ⟨gP,0,none⟩),.pointer (some ⟨gL,0,none⟩)]) ∧ Twin p q ∧ SrcMine w' w.heap.size gP gL q A n c z ∧ (n ≤ c ∧ c ≤ maxLen)) ∧ Below w.heap.size w w'
set_option maxRecDepth 1000000 in
set_option maxHeartbeats 8000000 in
theorem sc_along (B : Nat) (p : Pg) (A : Option Addr) (n c : Nat) (z : List (Int × Bool)) (w : World) (hp : p.Ok w B) (hz : Picks w B A n z) (hn : n ≤ 2000) (hB : B ≤ w.heap.size) (ca cb : Int) (cc : Nat) (hc : Q.check p = (ca,cb,cc)) :
    Calls Try.prog 32 #[pgA p,.slice A n c] w (AlongPost p n z cc w):=by
  have HP:=kp hp;have HZ:=kp hz;have HC:=kp hc
  clear hp hz hc
  rw [jI]
  go_enter Try.func32,Try.ntmps32
  go_wp2_with (first
    | ((with_reducible refine j2 rfl 24 (.tmp 0) rfl (pgC p) rfl ?_);intro gP w1 hgP hk1 hw1;have HKp1:=kp hk1;have HGP:=kp hgP;have HW1:=kp hw1;have hs1:=hw1.size;have hl1:=hk1.lt;clear hk1 hw1 hgP)
    | ((with_reducible show Sl 3);go_must (refine JB rfl 27 (.tmp 1) rfl (.slice A n c) rfl rfl ?_);intro gL w2 hgL hk2 hw2;have HKl2:=kp hk2;have HGL : Kept (w.heap.size ≤ gL ∧ gL ≠ gP):=kp ⟨by omega,by omega⟩;have HKp2:=kp (HKp1.out.below hw2 hl1);have HW2:=kp (HW1.out.trans (hw2.mono hs1));have hs2:=HW2.out.size;have hlp2:=HKp2.out.lt;have hll2:=hk2.lt;clear hk2 hw2 hgL)
    | ((with_reducible show Sl 8);go_must (refine j1 rfl 24 (.tmp 2) rfl gP rfl _ (pgC p) _ HKp2.out Try.underlying24 rfl jD ?_))
    | (go_at_call 15;fail))
  refine (xM B p w2 (HP.out.below (HW2.out.mono hB)) (by omega) ca cb cc HC.out).mono ?_
  unfold StartPost2
  rintro e w3 ⟨q0,rfl,_,_,_,h16,hb3⟩
  have H017:=kp (jT h16);have HW3:=kp (HW2.out.trans (hb3.mono hs2));have hs3:=HW3.out.size;have HKp3:=kp (HKp2.out.below hb3 hlp2);have HKl3:=kp (HKl2.out.below hb3 hll2);have hlp3:=HKp3.out.lt;have hll3:=HKl3.out.lt
  clear h16 hb3
  by_cases hz0 : cc = 0
  · subst hz0
    have HF:=kp (qZ HC.out)
    go_wp2_with (first
      | ((with_reducible show Sl 5);go_must (refine j3 rfl 46 rfl _ jZ ?_);intro gC w4 hgC hk4 hb4;have HKc:=kp hk4;have HGC : Kept (w.heap.size ≤ gC ∧ gC ≠ gP ∧ gC ≠ gL):=kp ⟨by omega,by omega,by omega⟩;have HW4:=kp (HW3.out.trans (hb4.mono hs3));have hs4:=HW4.out.size;have HKp4:=kp (HKp3.out.below hb4 hlp3);have HKl4:=kp (HKl3.out.below hb4 hll3);clear hk4 hb4 hgC)
      | ((with_reducible show Sn);(refine j4 rfl 46 (.tmp 5) (.tmp 10) rfl gC (pcC q0) rfl rfl _ _ HKc.out (by rw [H017.out];exact jA) (by rw [H017.out];rfl) (jW q0) ?_);intro w5 hk5 hg5 hz5
         have HW5:=kp (HW4.out.grown hg5 hs4 (fun k e => by cases e;exact HGC.out.1));have hs5:=HW5.out.size
         have HKp5:=kp (HKp4.out.grown hg5 (fun e => by cases e;exact HGC.out.2.1 rfl));have HKl5:=kp (HKl4.out.grown hg5 (fun e => by cases e;exact HGC.out.2.2 rfl));have hlp5:=HKp5.out.lt;have hll5:=HKl5.out.lt
         clear hk5 hg5 hz5))
    apply jC 4 (.is (.agg (pgC p).toArray) :: Fact.twin w5.heap.size p :: .is (.slice A n c) :: Fact.picks w5.heap.size n z :: [])
      [[],[(0,14)],[],[(2,16)],[(1,15)],[(3,17)]]
      [(0,14),(1,15),(2,16),(3,17)] (by kernel_rfl) (by kernel_rfl) (by kernel_rfl) (by kernel_rfl) (by kernel_rfl)
    case hob =>
      refine ⟨?o0,?o1,?o2,?o3,trivial⟩
      case o0 =>
        intro W hW;change wpList _ _ _ _ _ _
        go_must (refine j1 rfl 24 (.tmp 2) rfl gP rfl _ (pgC p) _ (HKp5.out.below hW hlp5) Try.underlying24 rfl jD ?_)
        go_wp2;exact j0 rfl rfl rfl
      case o1 =>
        intro W hW;rintro _ rfl;change wpList _ _ _ _ _ _
        have hsW:=hW.size
        go_wp2_with fail
        refine (sc_copied B p W (HP.out.below ((HW5.out.trans (hW.mono hs5)).mono hB)) HF.out (by omega)).mono ?_
        unfold CopyPost
        rintro e w6 ⟨q,rfl,ht,hok,hb6⟩
        have HT:=kp ht;have HO:=kp (hok.less hsW);have HB6:=kp hb6
        clear ht hok hb6
        go_wp2
        exact jB rfl rfl rfl HB6.out ⟨q,rfl,HT.out,HO.out⟩
      case o2 =>
        intro W hW;change wpList _ _ _ _ _ _
        have hc : W.cell? ⟨gL,0,none⟩ = some (.slice A n c):=(HKl5.out.below hW hll5).cell 0
        go_wp2;exact j0 rfl rfl rfl
      case o3 =>
        intro W hW;rintro _ rfl;change wpList _ _ _ _ _ _
        have hsW:=hW.size
        have HRz:=kp ((HZ.out.1.below ((HW5.out.trans (hW.mono hs5)).mono hB)).more (show B ≤ W.heap.size by omega))
        go_wp2_with fail
        refine (YT A n c z W HRz.out hn).mono ?_
        rintro e w6 ⟨v,rfl,hown,hb6⟩
        obtain ⟨A6,c6,rfl,h1,h2,h3⟩:=hown.form
        have hzl:=HZ.out.1.len
        rw [hzl] at h1 h3 hown ⊢
        have HO:=kp (hown.less hsW);have HB6:=kp hb6;have HCc:=kp (And.intro h1 h2)
        clear hown h1 h2 h3 hb6 hzl
        go_wp2
        exact jB rfl rfl rfl HB6.out ⟨A6,c6,rfl,HCc.out,HO.out⟩
    case hend =>
      intro W hW;rintro _ rfl;rintro _ ⟨q,rfl,ht,hok⟩;rintro _ rfl;rintro _ ⟨A6,c6,rfl,hcc,hpk⟩
      simp only [given,jF,List.set,List.drop]
      have hsW:=hW.size
      have HT:=kp ht;have HO:=kp hok;have HCc:=kp hcc;have HPk:=kp hpk;have HKp6:=kp (HKp5.out.below hW hlp5);have HKl6:=kp (HKl5.out.below hW hll5);have HW6:=kp (HW5.out.trans (hW.mono hs5));have hs6:=HW6.out.size
      clear hW ht hok hcc hpk
      have HLt : Kept (gP < w5.heap.size ∧ gL < w5.heap.size):=kp ⟨hlp5,hll5⟩
      refine j4 rfl 24 (.tmp 2) (.tmp 15) rfl gP (pgC q) rfl rfl _ _ HKp6.out jD rfl (LV q) ?_
      intro w7 hk7 hg7 hz7
      have HKp7:=kp hk7;have HKl7:=kp (HKl6.out.grown hg7 (fun e => by cases e;exact HGL.out.2 rfl));have HO7:=kp (HO.out.turn hg7 HLt.out.1);have HPk7:=kp (HPk.out.turn11 hg7 HLt.out.1);have HW7:=kp (HW6.out.grown hg7 hs6 (fun k e => by cases e;exact HGP.out));have hs7:=HW7.out.size
      clear hk7 hg7 hz7
      simp only [uW]
      refine j6 rfl 27 (.tmp 3) (.tmp 17) rfl gL 0 (.slice A6 n c6) rfl rfl rfl rfl _ _ HKl7.out (by show 0 < 1;decide) picks_size ?_
      intro w8 hk8 hg8 hz8
      have HKl8 : Kept (Blk w8 gL 27 [.slice A6 n c6]):=kp hk8
      have HKp8:=kp (HKp7.out.grown hg8 (fun e => by cases e;exact HGL.out.2 rfl));have HO8:=kp (HO7.out.turn hg8 HLt.out.2);have HPk8:=kp (HPk7.out.turn11 hg8 HLt.out.2);have HW8:=kp (HW7.out.grown hg8 hs7 (fun k e => by cases e;exact HGL.out.1))
      clear hk8 hg8 hz8
      simp only [uW]
      go_wp2
      go_ret
      exact ⟨.inr ⟨rfl,gP,gL,q,A6,c6,rfl,HT.out,⟨HKp8.out,HKl8.out,HO8.out.less hs5,OwnR.less HPk8.out hs5,HZ.out.2,HGP.out,HGL.out.1⟩,HCc.out⟩,HW8.out⟩
  · have HZ0:=kp hz0
    have hb0 : ((cc : Int) != 0) = true:=by simpa using hz0
    clear hz0
    go_wp2_with (first
      | ((with_reducible show Sl 5);go_must (refine j3 rfl 46 rfl _ jZ ?_);intro gC w4 hgC hk4 hb4;have HKc:=kp hk4;have HGC : Kept (w.heap.size ≤ gC):=kp (by omega);have HW4:=kp (HW3.out.trans (hb4.mono hs3));have hs4:=HW4.out.size;clear hk4 hb4 hgC)
      | ((with_reducible show Sn);(refine j4 rfl 46 (.tmp 5) (.tmp 10) rfl gC (pcC q0) rfl rfl _ _ HKc.out (by rw [H017.out];exact jA) (by rw [H017.out];rfl) (jW q0) ?_);intro w5 hk5 hg5 hz5
         have HW5:=kp (HW4.out.grown hg5 hs4 (fun k e => by cases e;exact HGC.out))
         clear hk5 hg5 hz5))
    go_ret
    exact ⟨.inl ⟨HZ0.out,rfl⟩,HW5.out⟩
theorem Mine.put11 {w : World} {B l : Nat} {q : Pc} (h : Mine w B q) {o0 : Obj} (o : Obj) (hl : w.heap[l]? = some o0) (hc : o0.isCells = false) : Mine (w.putObj l o) B q :=
  ⟨h.row.put11 o hl hc,⟨fun k x hx => (h.fam.own k x hx).put11 o hl hc,h.fam.out,h.fam.apart⟩⟩
theorem lX {w0 w : World} {B l : Nat} (h : Below B w0 w) (o : Obj) (hB : B ≤ w.heap.size) (hl : B ≤ l) : Below B w0 (w.putObj l o):=h.grown (grownBy_putObj' w l o) hB (fun k e => by cases e;exact hl)
set_option maxRecDepth 100000 in
theorem sc_along1 (y : Value) (w : World) : Calls Try.prog 52 #[y] w fun e w' => e = .returned (.tuple #[]) ∧ w = w':=by
  go_enter Try.func52,Try.ntmps52
  go_wp2
  exact ⟨rfl,_,results_none rfl _ _ _,rfl,rfl⟩
structure RunJ (w : World) (S L D gP gL gR gE : Nat) (q : Pg) (A : Option Addr) (n c : Nat) (z : List (Int × Bool)) (p : Pg) (rec : Loop) (i : Nat) (W : World) : Prop where
  src : SrcMine W L gP gL q A n c z
  loop : W.heap[D + 1]? = some (.loop rec)
  dfr : W.heap[D]? = some (.deferred (some []))
  size : S ≤ W.heap.size
  below : Below w.heap.size w W
  res : ∃ cs,cs.length = 17 ∧ Blk W gR 46 cs
  fin : ∃ qe : Pc,Blk W gE 46 (pcC qe) ∧ Mine W w.heap.size qe ∧ qe.ow.length = 16 ∧ qe.cf = runTo p z (i - 1)
section
variable {w : World} {S L D gP gL gR gE : Nat} {q : Pg} {A : Option Addr} {n c : Nat} {z : List (Int × Bool)} {p : Pg} {rec : Loop} {i : Nat} {W W' : World}
theorem RunJ.more (h : RunJ w S L D gP gL gR gE q A n c z p rec i W) (hb : Below W.heap.size W W') : RunJ w S L D gP gL gR gE q A n c z p rec i W':=by
  obtain ⟨cs,h1,h2⟩:=h.res
  obtain ⟨qe,h3,h4,h5,h6⟩:=h.fin
  have hl:=(Array.getElem?_eq_some_iff.1 h.loop).1
  have hd:=(Array.getElem?_eq_some_iff.1 h.dfr).1
  exact ⟨h.src.below hb,(hb.block _ hl).trans h.loop,(hb.block _ hd).trans h.dfr,Nat.le_trans h.size hb.size,h.below.trans (hb.mono h.below.size),⟨cs,h1,h2.below hb h2.lt⟩,qe,h3.below hb h3.lt,h4.below hb (Nat.le_refl _),h5,h6⟩
theorem RunJ.conf {g : Nat} {cs : List Value} (h : RunJ w S L D gP gL gR gE q A n c z p rec i W) (hS : S ≤ g) (hk : Blk W g 46 cs) (hg : W.grownBy W' (some g)) (hD : D + 1 < S) (hR : gR < S) (hE : gE < S) (hw : w.heap.size ≤ S) : RunJ w S L D gP gL gR gE q A n c z p rec i W':=by
  obtain ⟨cs',h1,h2⟩:=h.res
  obtain ⟨qe,h3,h4,h5,h6⟩:=h.fin
  have hb : Below S W W':=(Below.refl S W).grown hg h.size (fun k e => by cases e;exact hS)
  exact ⟨h.src.conf hk hg,(hb.block _ hD).trans h.loop,(hb.block _ (by omega)).trans h.dfr,Nat.le_trans h.size hg.size,h.below.trans (hb.mono hw),⟨cs',h1,h2.below hb hR⟩,qe,h3.below hb hE,Mine.typed h4 hk hg,h5,h6⟩
theorem RunJ.round {Wd : World} {q1 : Pc} (h : RunJ w S L D gP gL gR gE q A n c z p rec i W) (hst : rec.state = .ready) (hpe : rec.pending = none) (hk : Blk Wd gE 46 (pcC q1))
    (hg : (W.putObj (D + 1) (.loop { rec with state:=.busy })).grownBy Wd (some gE)) (hm : Mine W w.heap.size q1) (h16 : q1.ow.length = 16) (hcf : q1.cf = runTo p z i) (hD : D + 1 < S) (hE : gE < L ∧ gE ≠ gR ∧ gE < D) (hw : w.heap.size ≤ gE) :
    ∃ We,(Instr.endRound (D + 1) none).run Try.prog Wd = .ok (.bool true) We ∧ RunJ w S L D gP gL gR gE q A n c z p rec (i + 1) We ∧ Held (fun k => S ≤ k ∧ k < W.heap.size) W We:=by
  obtain ⟨cs',h1,h2⟩:=h.res
  obtain ⟨qe,h3,h4,h5,h6⟩:=h.fin
  have hl:=(Array.getElem?_eq_some_iff.1 h.loop).1
  have hd:=(Array.getElem?_eq_some_iff.1 h.dfr).1
  have hRl:=h2.notObj h.loop rfl
  have hws:=h.below.size
  obtain ⟨Wc,hWc⟩ : ∃ Wc,W.putObj (D + 1) (.loop { rec with state:=.busy }) = Wc:=⟨_,rfl⟩
  have hlc : Wc.heap[D + 1]? = some (.loop { rec with state:=.busy }):=by rw [← hWc];exact World.putObj_heap_same hl
  have hdc : Wc.heap[D]? = some (.deferred (some [])):=by rw [← hWc];exact (World.putObj_heap_other (by omega)).trans h.dfr
  have hsc : SrcMine Wc L gP gL q A n c z:=by rw [← hWc];exact h.src.put _ h.loop rfl
  have hmc : Mine Wc w.heap.size q1:=by rw [← hWc];exact hm.put11 _ h.loop rfl
  have hbc : Below w.heap.size w Wc:=by rw [← hWc];exact lX h.below _ hws (by omega)
  have h2c : Blk Wc gR 46 cs':=by rw [← hWc];exact h2.put _ hRl
  have h3c : Blk Wc gE 46 (pcC qe):=by rw [← hWc];exact h3.put _ (by omega)
  have hzc : Wc.heap.size = W.heap.size:=by rw [← hWc];simp
  rw [hWc] at hg
  have hld : Wd.heap[D + 1]? = some (.loop { rec with state:=.busy }):=(hg.block _ (Array.getElem?_eq_some_iff.1 hlc).1 (by intro e;cases e;omega)).trans hlc
  have hdd : Wd.heap[D]? = some (.deferred (some [])):=(hg.block _ (Array.getElem?_eq_some_iff.1 hdc).1 (by intro e;cases e;omega)).trans hdc
  have hsd:=hsc.turn hg hE.1
  have hmd:=Mine.typed hmc h3c hg
  have hbd:=hbc.grown hg hbc.size (fun k e => by cases e;exact hw)
  have h2d:=h2c.grown hg (fun e => by cases e;exact hE.2.1 rfl)
  have hzd:=hg.size
  have hrun:=run_endRound (P:=Try.prog) none hld
  have hrec : ({ ({ rec with state:=.busy } : Loop) with state:=if (none : Option Code).isNone then .ready else .done,pending:=none } : Loop) = rec:=rec_on hst hpe
  refine ⟨Wd.putObj (D + 1) (.loop rec),?_,?_,?_⟩
  · rw [hrec] at hrun;exact hrun
  · have hlt:=(Array.getElem?_eq_some_iff.1 hld).1
    exact ⟨hsd.put _ hld rfl,World.putObj_heap_same hlt,(World.putObj_heap_other (by omega)).trans hdd,by have:=h.size;simp;omega,lX hbd _ hbd.size (by omega),⟨cs',h1,h2d.put _ hRl⟩,q1,hk.put _ (by omega),hmd.put11 _ hld rfl,h16,by simpa using hcf⟩
  · have g2:=grownBy_putObj' Wd (D + 1) (.loop rec)
    have g0:=grownBy_putObj' W (D + 1) (.loop { rec with state:=.busy })
    rw [hWc] at g0
    exact ((Held.of_grown g0 fun k hk => ⟨hk.2,fun e => by cases e;omega⟩).trans (Held.of_grown hg fun k hk => ⟨by omega,fun e => by cases e;omega⟩)).trans (Held.of_grown g2 fun k hk => ⟨by omega,fun e => by cases e;omega⟩)
end
theorem uT {P : Program} (w : World) (ty : TypeId) (a : Addr) (v : Value) (d : TypeDesc) (hu : P.underlying ty = some d) (hd : (match d with | .struct _ | .array _ _ => true | _ => false) = false) (hc : w.cell? a = some v) : (loadVar ty a).run P w = .ok v w:=by
  have hagg : (isAgg ty).run P w = .ok false w:=by
    unfold isAgg
    rw [Sem.run_bind,run_underlying hu w]
    cases d <;> simp_all
  simp [loadVar,Sem.run_bind,hagg,load,Sem.run,hc]
theorem yO {P : Program} {fn : Func} {p q : Tmp} {ty ty2 : TypeId} (h : fn.results = #[.cell p ty,.cell q ty2]) (tmps : Array Value) (w : World) (a b : Addr) (v v2 : Value) (d d2 : TypeDesc)
    (hp : tmps.getD p undef = .pointer (some a)) (hq : tmps.getD q undef = .pointer (some b)) (ha : w.cell? a = some v) (hb : w.cell? b = some v2)
    (hu : P.underlying ty = some d) (hd : (match d with | .struct _ | .array _ _ => true | _ => false) = false) (hu2 : P.underlying ty2 = some d2) (hd2 : (match d2 with | .struct _ | .array _ _ => true | _ => false) = false) :
    (results fn tmps).run P w = .ok (.tuple #[v,v2]) w:=by
  have hp' : tmps[p]?.getD undef = .pointer (some a):=by simpa using hp
  have hq' : tmps[q]?.getD undef = .pointer (some b):=by simpa using hq
  simp [results,h,hp',hq',asAddr,uT w ty a v d hu hd ha,uT w ty2 b v2 d2 hu2 hd2 hb]
def RaceAt (p : Pg) (c : M.Cf) : Prop:=∃ x y z,M.FirstIs p c x y z 1
theorem raceAt_of {p : Pg} {c : M.Cf} {x y z : Int} {b : Bool} (h : M.FirstIs p c x y z (if b = true then 1 else 0)) : b = true ↔ RaceAt p c:=by
  cases b with
  | true => exact ⟨fun _ => ⟨x,y,z,h⟩,fun _ => rfl⟩
  | false =>
    refine ⟨fun h => (by cases h),fun ⟨x',y',z',h'⟩ => ?_⟩
    have h2 : M.FirstIs p c x y z 0:=h
    have:=(M.first_one h2 h').2.2.2
    exact absurd this (by decide)
def MeetIs (p : Pg) (n : Nat) (z : List (Int × Bool)) (k : Nat) (b : Bool) : Prop :=
  (b = true ∧ k ≤ n ∧ RaceAt p (runTo p z k) ∧ ∀ j,j < k → ¬ RaceAt p (runTo p z j)) ∨ (b = false ∧ k = 0 ∧ ∀ j,j ≤ n → ¬ RaceAt p (runTo p z j))
def MeetEnd (p : Pg) (n : Nat) (z : List (Int × Bool)) (cc k : Nat) (b : Bool) : Prop:=(cc ≠ 0 → k = 0 ∧ b = false) ∧ (cc = 0 → MeetIs p n z k b)
def MeetsPost (p : Pg) (n : Nat) (z : List (Int × Bool)) (cc : Nat) (w : World) : Ending → World → Prop:=fun e w' => ∃ (k : Nat) (b : Bool),e = .returned (.tuple #[.int .i64 (k : Int),.bool b]) ∧ MeetEnd p n z cc k b ∧ Below w.heap.size w w'
structure MeetB (w : World) (S L D gP0 gI gB gP gL : Nat) (q : Pg) (A : Option Addr) (n c : Nat) (z : List (Int × Bool)) (p : Pg) (lp : Loop) (vi vb : Value) (W : World) : Prop where
  src : SrcMine W L gP gL q A n c z
  loop : W.heap[D + 1]? = some (.loop lp)
  dfr : W.heap[D]? = some (.deferred (some []))
  size : S ≤ W.heap.size
  below : Below w.heap.size w W
  pb : Blk W gP0 24 (pgC p)
  bi : Blk W gI 3 [vi]
  bb : Blk W gB 4 [vb]
section
variable {w : World} {S L D gP0 gI gB gP gL : Nat} {q : Pg} {A : Option Addr} {n c : Nat} {z : List (Int × Bool)} {p : Pg} {lp : Loop} {vi vb : Value} {W W' : World}
theorem MeetB.more (h : MeetB w S L D gP0 gI gB gP gL q A n c z p lp vi vb W) (hb : Below W.heap.size W W') : MeetB w S L D gP0 gI gB gP gL q A n c z p lp vi vb W':=by
  have hl:=(Array.getElem?_eq_some_iff.1 h.loop).1
  have hd:=(Array.getElem?_eq_some_iff.1 h.dfr).1
  exact ⟨h.src.below hb,(hb.block _ hl).trans h.loop,(hb.block _ hd).trans h.dfr,Nat.le_trans h.size hb.size,h.below.trans (hb.mono h.below.size),h.pb.below hb h.pb.lt,h.bi.below hb h.bi.lt,h.bb.below hb h.bb.lt⟩
theorem MeetB.conf {g : Nat} {cs : List Value} (h : MeetB w S L D gP0 gI gB gP gL q A n c z p lp vi vb W) (hS : S ≤ g) (hk : Blk W g 46 cs) (hg : W.grownBy W' (some g)) (hD : D + 1 < S) (hP : gP0 < S ∧ gI < S ∧ gB < S) (hw : w.heap.size ≤ S) : MeetB w S L D gP0 gI gB gP gL q A n c z p lp vi vb W':=by
  have hb : Below S W W':=(Below.refl S W).grown hg h.size (fun k e => by cases e;exact hS)
  exact ⟨h.src.conf hk hg,(hb.block _ hD).trans h.loop,(hb.block _ (by omega)).trans h.dfr,Nat.le_trans h.size hg.size,h.below.trans (hb.mono hw),h.pb.below hb hP.1,h.bi.below hb hP.2.1,h.bb.below hb hP.2.2⟩
theorem MeetB.put (h : MeetB w S L D gP0 gI gB gP gL q A n c z p lp vi vb W) (lp' : Loop) (hw : w.heap.size ≤ D) : MeetB w S L D gP0 gI gB gP gL q A n c z p lp' vi vb (W.putObj (D + 1) (.loop lp')):=by
  have hl:=(Array.getElem?_eq_some_iff.1 h.loop).1
  exact ⟨h.src.put _ h.loop rfl,World.putObj_heap_same hl,(World.putObj_heap_other (by omega)).trans h.dfr,by have:=h.size;simpa using this,lX h.below _ h.below.size (by omega),h.pb.put _ (h.pb.notObj h.loop rfl),h.bi.put _ (h.bi.notObj h.loop rfl),h.bb.put _ (h.bb.notObj h.loop rfl)⟩
theorem MeetB.setI {vi' : Value} (h : MeetB w S L D gP0 gI gB gP gL q A n c z p lp vi vb W) (hk : Blk W' gI 3 [vi']) (hg : W.grownBy W' (some gI)) (hL : gI < L) (hw : w.heap.size ≤ gI) : MeetB w S L D gP0 gI gB gP gL q A n c z p lp vi' vb W':=by
  have hl:=(Array.getElem?_eq_some_iff.1 h.loop).1
  have hd:=(Array.getElem?_eq_some_iff.1 h.dfr).1
  exact ⟨h.src.turn hg hL,(hg.block _ hl (fun e => by cases e;exact h.bi.notObj h.loop rfl rfl)).trans h.loop,(hg.block _ hd (fun e => by cases e;exact h.bi.notObj h.dfr rfl rfl)).trans h.dfr,Nat.le_trans h.size hg.size,h.below.grown hg h.below.size (fun k e => by cases e;exact hw),
    h.pb.grown hg (fun e => h.pb.twoNe h.bi (by decide) (by cases e;rfl)),hk,h.bb.grown hg (fun e => h.bb.twoNe h.bi (by decide) (by cases e;rfl))⟩
theorem MeetB.setB {vb' : Value} (h : MeetB w S L D gP0 gI gB gP gL q A n c z p lp vi vb W) (hk : Blk W' gB 4 [vb']) (hg : W.grownBy W' (some gB)) (hL : gB < L) (hw : w.heap.size ≤ gB) : MeetB w S L D gP0 gI gB gP gL q A n c z p lp vi vb' W':=by
  have hl:=(Array.getElem?_eq_some_iff.1 h.loop).1
  have hd:=(Array.getElem?_eq_some_iff.1 h.dfr).1
  exact ⟨h.src.turn hg hL,(hg.block _ hl (fun e => by cases e;exact h.bb.notObj h.loop rfl rfl)).trans h.loop,(hg.block _ hd (fun e => by cases e;exact h.bb.notObj h.dfr rfl rfl)).trans h.dfr,Nat.le_trans h.size hg.size,h.below.grown hg h.below.size (fun k e => by cases e;exact hw),
    h.pb.grown hg (fun e => h.pb.twoNe h.bb (by decide) (by cases e;rfl)),h.bi.grown hg (fun e => h.bi.twoNe h.bb (by decide) (by cases e;rfl)),hk⟩
end
theorem Y9 : (Try.prog.info? 4).map (·.zero) = some (some (.bool false)):=by kernel_rfl
theorem int_zero11 : (Try.prog.info? 3).map (·.zero) = some (some (.int .i64 0)):=by kernel_rfl
theorem uE : (Try.prog.info? 4).map (·.size) = some 1:=by kernel_rfl
set_option maxRecDepth 1000000 in
set_option maxHeartbeats 8000000 in
theorem XE (B : Nat) (p : Pg) (A : Option Addr) (n c : Nat) (z : List (Int × Bool)) (w : World) (hp : p.Ok w B) (hz : Picks w B A n z) (hn : n ≤ 2000) (hB : B ≤ w.heap.size) (ca cb : Int) (cc : Nat) (hc : Q.check p = (ca,cb,cc)) :
    Calls Try.prog 14 #[pgA p,.slice A n c] w (MeetsPost p n z cc w):=by
  have HP:=kp hp;have HZ:=kp hz;have HC:=kp hc
  clear hp hz hc
  rw [jI]
  refine LI Try.func14 rfl ?_
  simp only [Try.ntmps14,List.size_toArray,List.length_cons,List.length_nil,Nat.reduceAdd,Nat.reduceSub,Array.replicate_succ,Array.replicate_zero,List.push_toArray,List.append_toArray,List.nil_append,List.cons_append]
  go_wp2_with (first
    | ((with_reducible refine j2 rfl 24 (.tmp 0) rfl (pgC p) rfl ?_);intro gP w1 hgP hk1 hw1;have HKp1:=kp hk1;have HGP:=kp hgP;have HW1:=kp hw1;have hs1:=hw1.size;have hl1:=hk1.lt;clear hk1 hw1 hgP)
    | ((with_reducible show Sl 4);go_must (refine yD rfl 3 rfl _ int_zero11 rfl ?_);intro gI w2 hgI hk2 hw2;have HKi2:=kp hk2;have HGI : Kept (w.heap.size ≤ gI):=kp (by omega);have HKp2:=kp (HKp1.out.below hw2 hl1);have HW2:=kp (HW1.out.trans (hw2.mono hs1));have hs2:=HW2.out.size;have hlp2:=HKp2.out.lt;have hli2:=hk2.lt;clear hk2 hw2 hgI)
    | ((with_reducible show Sl 5);go_must (refine yD rfl 4 rfl _ Y9 rfl ?_);intro gB w3 hgB hk3 hw3;have HKb3:=kp hk3;have HGB : Kept (w.heap.size ≤ gB):=kp (by omega);have HKp3:=kp (HKp2.out.below hw3 hlp2);have HKi3:=kp (HKi2.out.below hw3 hli2);have HW3:=kp (HW2.out.trans (hw3.mono hs2));have hs3:=HW3.out.size;have hlp3:=HKp3.out.lt;have hli3:=HKi3.out.lt;have hlb3:=hk3.lt;clear hk3 hw3 hgB)
    | ((with_reducible show Sl 12);go_must (refine j1 rfl 24 (.tmp 2) rfl gP rfl _ (pgC p) _ HKp3.out Try.underlying24 rfl jD ?_))
    | (go_at_call 32;fail))
  refine (sc_along B p A n c z w3 (HP.out.below (HW3.out.mono hB)) (HZ.out.below (HW3.out.mono hB)) hn (by omega) ca cb cc HC.out).mono ?_
  unfold AlongPost
  rintro e w6 ⟨h,hb6⟩
  have HW6:=kp (HW3.out.trans (hb6.mono hs3));have hs6:=HW6.out.size;have HKp6:=kp (HKp3.out.below hb6 hlp3);have HKi6:=kp (HKi3.out.below hb6 hli3);have HKb6:=kp (HKb3.out.below hb6 hlb3)
  have hge1:=HGI.out;have hge2:=HGB.out;have hge3:=HGP.out;have hs36:=hb6.size;have hni:=HKi6.out.twoNe HKb6.out (by decide)
  clear hb6
  rcases h with ⟨hz0,rfl⟩ | ⟨rfl,gP2,gL2,q2,A2,c2,rfl,htw,hsrc,hc2⟩
  · go_wp2
    refine xH (gf:=52) (lb:=#[]) rfl (enters_of Try.func52 (by kernel_rfl) rfl) ?_
    intro rec hst hpe htm hps has hbo W1 hW1
    obtain ⟨hl1',hd1,hb1',hz1⟩:=uV hW1
    refine (sc_along1 _ W1).mono ?_
    rintro e w7 ⟨rfl,rfl⟩
    refine ⟨⟨_,rfl⟩,rec,hl1',by rw [hst];exact fun h => (by cases h),?_⟩
    rw [hpe]
    dsimp only
    have hki:=HKi6.out.below hb1' HKi6.out.lt;have hkb:=HKb6.out.below hb1' HKb6.out.lt;have hbw:=HW6.out.trans (hb1'.mono hs6);have hdd:=hd1;have hlp:=hl1'
    have HE : Kept (MeetEnd p n z cc 0 false):=kp ⟨fun _ => ⟨rfl,rfl⟩,fun h => absurd h hz0⟩
    clear hl1' hd1 hb1' hz0 hst hpe htm hps has hbo hW1
    obtain ⟨w8,hw8⟩ : ∃ W,W1.putObj (w6.heap.size + 1) (.loop { rec with state:=.exhausted,pending:=none }) = W:=⟨_,rfl⟩
    have HKi8 : Kept (Blk w8 gI 3 [.int .i64 0]):=kp (by rw [← hw8];exact hki.put _ (hki.notObj hlp rfl))
    have HKb8 : Kept (Blk w8 gB 4 [.bool false]):=kp (by rw [← hw8];exact hkb.put _ (hkb.notObj hlp rfl))
    have HD8 : Kept (w8.heap[w6.heap.size]? = some (.deferred (some []))):=kp (by rw [← hw8];exact (World.putObj_heap_other (by omega)).trans hdd)
    have HB8 : Kept (Below w.heap.size w w8):=kp (by rw [← hw8];exact lX hbw _ hbw.size (by omega))
    have HS8:=HB8.out.size
    have HGx : Kept (w.heap.size ≤ gI ∧ w.heap.size ≤ gB ∧ gI ≠ w6.heap.size ∧ gB ≠ w6.heap.size ∧ gI ≠ gB ∧ w.heap.size ≤ w6.heap.size):=kp ⟨by omega,by omega,hki.notObj hdd rfl,hkb.notObj hdd rfl,hni,by omega⟩
    rw [hw8]
    clear hw8 hki hkb hdd hbw hlp
    go_wp2_with (first
      | ((with_reducible show Sn);(refine j6 rfl 3 (.tmp 4) (.const (.int .i64 0)) rfl gI 0 (.int .i64 0) rfl rfl rfl rfl _ _ HKi8.out (by show 0 < 1;decide) l7 ?_);intro w9 hk9 hg9 hz9
         have HKi9 : Kept (Blk w9 gI 3 [.int .i64 0]):=kp hk9;have HKb9:=kp (HKb8.out.grown hg9 (fun e => by cases e;exact HGx.out.2.2.2.2.1 rfl));have HB9:=kp (HB8.out.grown hg9 HS8 (fun k e => by cases e;exact HGx.out.1));have hs9:=HB9.out.size;have HD9:=kp ((hg9.block _ (Array.getElem?_eq_some_iff.1 HD8.out).1 (fun e => by cases e;exact HGx.out.2.2.1 rfl)).trans HD8.out)
         clear hk9 hg9 hz9)
      | ((with_reducible show Sn);(refine j6 rfl 4 (.tmp 5) (.const (.bool false)) rfl gB 0 (.bool false) rfl rfl rfl rfl _ _ HKb9.out (by show 0 < 1;decide) uE ?_);intro w10 hk10 hg10 hz10
         have HKb10 : Kept (Blk w10 gB 4 [.bool false]):=kp hk10;have HKi10:=kp (HKi9.out.grown hg10 (fun e => by cases e;exact HGx.out.2.2.2.2.1 rfl));have HB10:=kp (HB9.out.grown hg10 hs9 (fun k e => by cases e;exact HGx.out.2.1));have HD10:=kp ((hg10.block _ (Array.getElem?_eq_some_iff.1 HD9.out).1 (fun e => by cases e;exact HGx.out.2.2.2.1 rfl)).trans HD9.out)
         clear hk10 hg10 hz10))
    have hb10:=HB10.out.size
    exact (xV (D:=w6.heap.size) rfl HD10.out (yO (P:=Try.prog) (fn:=Try.f14) rfl _ _ ⟨gI,0,none⟩ ⟨gB,0,none⟩ (.int .i64 0) (.bool false) _ _ rfl rfl ((HKi10.out.put _ HGx.out.2.2.1).cell 0) ((HKb10.out.put _ HGx.out.2.2.2.1).cell 0) Try.underlying3 rfl Try.underlying4 rfl) ⟨0,false,rfl,HE.out,lX HB10.out _ hb10 HGx.out.2.2.2.2.2⟩).1
  · go_wp2
    refine xH (gf:=55) rfl (enters_of Try.func55 (by kernel_rfl) rfl) ?_
    intro rec hst hpe htm hps has hbo W1 hW1
    obtain ⟨hl1',hd1,hb1',hz1⟩:=uV hW1
    clear hW1
    refine (sc_along2 (.func (.yield (w6.heap.size + 1)) #[] #[]) gP2 gL2 q2 A2 n c2 z W1 0 0 (htw.check (qZ HC.out)) hn
      (fun i W => MeetB w W1.heap.size w3.heap.size w6.heap.size gP gI gB gP2 gL2 q2 A2 n c2 z p rec (.int .i64 0) (.bool false) W ∧ ∀ j,j < i → ¬ RaceAt p (runTo p z j))
      (fun i W => MeetB w W1.heap.size w3.heap.size w6.heap.size gP gI gB gP2 gL2 q2 A2 n c2 z p { rec with state:=.done,pending:=some .ret } (.int .i64 (i : Int)) (.bool true) W ∧ RaceAt p (runTo p z i) ∧ ∀ j,j < i → ¬ RaceAt p (runTo p z j))
      (fun i A hj => hj.1.src.src) (fun i A A' hj hb => ⟨hj.1.more hb,hj.2⟩) (fun i A A' g cs hj hg hk hgr => ⟨hj.1.conf hg hk hgr (by omega) ⟨by omega,by omega,by omega⟩ (by omega),hj.2⟩) ?round ?first).mono ?last
    case first =>
      exact ⟨⟨⟨hsrc.pb.below hb1' hsrc.pb.lt,hsrc.lb.below hb1' hsrc.lb.lt,hsrc.ok.below hb1',hsrc.pk.below hb1' (Nat.le_refl _),hsrc.i64,hsrc.lo⟩,hl1',hd1,Nat.le_refl _,HW6.out.trans (hb1'.mono hs6),HKp6.out.below hb1' HKp6.out.lt,HKi6.out.below hb1' HKi6.out.lt,HKb6.out.below hb1' HKb6.out.lt⟩,fun j hj => by omega⟩
    case round =>
      intro i Wr q1 hi hj hsz hm1 hcq h16q
      have hDlt : w6.heap.size + 1 < W1.heap.size:=by omega
      clear hz1
      refine QT (vs:=[.int .i64 (i : Int),pcA q1]) (ps:=[15,16]) hj.1.loop hst htm hps has hbo rfl ?_
      have hst':=kp hst;have hpe':=kp hpe;have hj':=kp hj.1;have hno':=kp hj.2;have hm1':=kp hm1;have hcq':=kp (hcq.trans (htw.runTo z i));have h16':=kp h16q;have h17':=kp (jT h16q);have hzW:=hj.1.size;have hwW:=hj.1.below.size
      clear hst hpe htm hps has hbo hj hm1 hcq h16q hsrc htw
      simp only [List.zip_cons_cons,List.zip_nil_right,List.foldl_cons,List.foldl_nil]
      refine wpIn_seq (qN (r:=some (w6.heap.size + 1)) rfl (by rintro ⟨_,_,h⟩;exact h) ?_)
      go_wp2
      refine qN (r:=some (w6.heap.size + 1)) rfl (by rintro ⟨_,_,h⟩;exact h) ?_
      go_wp2_with (first
        | ((with_reducible show Sl 7);go_must (refine j3 rfl 46 rfl _ jZ ?_);intro g9 Wa hg9 hka hba;have HKa:=kp hka;have HGa:=kp hg9;have HBa:=kp hba;have hsa:=hba.size;have HMa:=kp (hm1'.out.below hba (Nat.le_refl _));clear hka hba hg9)
        | ((with_reducible show Sn);(refine j4 rfl 46 (.tmp 7) (.tmp 16) rfl g9 (pcC q1) rfl rfl _ _ HKa.out (by rw [h17'.out];exact jA) (by rw [h17'.out];rfl) (jW q1) ?_);intro Wb hkb hgb hzb
           have HKb:=kp hkb;have HBb:=kp (HBa.out.grown hgb hsa (fun k e => by cases e;exact HGa.out));have HMb:=kp (Mine.typed HMa.out HKa.out hgb)
           clear hkb hgb hzb))
      have hjb:=hj'.out.more HBb.out
      have hwD : w.heap.size ≤ w6.heap.size:=hs6
      have hjc:=hjb.put { rec with state:=.busy } hwD
      refine ⟨hjb.loop,wpIn_block (wpIn_seq (qN (r:=some (w6.heap.size + 1)) rfl (by rintro ⟨_,_,h⟩;exact h) ?_))⟩
      have hHb : Held (fun k => W1.heap.size ≤ k ∧ k < Wr.heap.size) Wr Wb:=Held.of_below HBb.out fun k hk => hk.2
      have hzb : Wr.heap.size ≤ Wb.heap.size:=HBb.out.size
      have hzWr : W1.heap.size ≤ Wr.heap.size:=hzW
      have hHc : Held (fun k => W1.heap.size ≤ k ∧ k < Wr.heap.size) Wr (Wb.putObj (w6.heap.size + 1) (.loop { rec with state:=.busy })):=hHb.trans (Held.of_grown (grownBy_putObj' Wb (w6.heap.size + 1) _) fun k hk => ⟨by omega,fun e => by cases e;omega⟩)
      have hk9c:=HKb.out.put (.loop { rec with state:=.busy }) (HKb.out.notObj hjb.loop rfl)
      have hm9c:=HMb.out.put11 (.loop { rec with state:=.busy }) hjb.loop rfl
      have hzc : (Wb.putObj (w6.heap.size + 1) (.loop { rec with state:=.busy })).heap.size = Wb.heap.size:=by simp
      obtain ⟨Wc,hWc⟩ : ∃ Wc,Wb.putObj (w6.heap.size + 1) (.loop { rec with state:=.busy }) = Wc:=⟨_,rfl⟩
      rw [hWc] at hjc hHc hk9c hm9c hzc ⊢
      have HJc:=kp hjc;have HHc:=kp hHc;have HK9:=kp hk9c;have HM9:=kp hm9c;have HZc:=kp hzc
      clear hjb hjc hHb hHc hk9c hm9c hWc hzc
      have HPc : Kept (p.Ok Wc Wc.heap.size):=kp (lD (HP.out.below (HJc.out.below.mono hB)) (by have:=HJc.out.below.size;omega))
      have HFn:=kp (qZ HC.out)
      go_wp2_with (first
        | ((with_reducible show Sl 18);go_must (refine j1 rfl 24 (.tmp 2) rfl gP rfl _ (pgC p) _ HJc.out.pb Try.underlying24 rfl jD ?_))
        | ((with_reducible show Sl 19);go_must (refine j1 rfl 46 (.tmp 7) rfl g9 rfl _ (pcC q1) _ HK9.out Try.underlying46 rfl (by rw [h17'.out];exact jA) ?_))
        | (go_at_call 21;fail))
      refine (JT Wc.heap.size p HFn.out q1 Wc HPc.out HM9.out.ok (by rw [hcq'.out];exact qT HFn.out HP.out.row.len z i) (Nat.le_refl _)).mono ?_
      unfold FirstPost
      rintro e Wd ⟨x,y,zz,b,rfl,hfi,hbd⟩
      rw [hcq'.out] at hfi
      have HRa:=kp (raceAt_of hfi)
      have HJd:=kp (HJc.out.more hbd)
      have hzc2:=HZc.out
      have HHd : Kept (Held (fun k => W1.heap.size ≤ k ∧ k < Wr.heap.size) Wr Wd):=kp (HHc.out.trans (Held.of_below hbd fun k hk => by omega))
      have hzd : Wr.heap.size ≤ Wd.heap.size:=by have:=hbd.size;omega
      clear hfi hbd
      go_wp2
      refine wpIn_seq (qN (r:=some (w6.heap.size + 1)) rfl (by rintro ⟨_,_,h⟩;exact h) ?_)
      go_wp2
      cases b with
      | false =>
        refine wpIn_cond_false rfl (wpIn_skip ?_)
        have hrun:=run_endRound (P:=Try.prog) none HJd.out.loop
        have hrec : ({ ({ rec with state:=.busy } : Loop) with state:=if (none : Option Code).isNone then .ready else .done,pending:=none } : Loop) = rec:=rec_on hst'.out hpe'.out
        rw [hrec] at hrun
        refine ⟨_,_,hrun,.inl ⟨rfl,HJd.out.put rec hwD,fun j hj => ?_⟩,HHd.out.trans (Held.of_grown (grownBy_putObj' Wd (w6.heap.size + 1) _) fun k hk => ⟨by omega,fun e => by cases e;omega⟩)⟩
        by_cases hji : j = i
        · subst hji
          exact fun h => by have:=HRa.out.2 h;cases this
        · exact hno'.out j (by omega)
      | true =>
        have hgiw : gI < W1.heap.size ∧ gB < W1.heap.size:=⟨by omega,by omega⟩
        have HGiw:=kp hgiw;have HG3 : Kept (gI < w3.heap.size ∧ gB < w3.heap.size ∧ w.heap.size ≤ gI ∧ w.heap.size ≤ gB):=kp ⟨hli3,hlb3,hge1,hge2⟩
        refine wpIn_cond_true rfl (wpIn_seq (qN (r:=some (w6.heap.size + 1)) rfl (by rintro ⟨_,_,h⟩;exact h) ?_))
        go_wp2_with (first
          | ((with_reducible show Sn);(refine j6 rfl 3 (.tmp 4) (.tmp 26) rfl gI 0 (.int .i64 (i : Int)) rfl rfl rfl rfl _ _ HJd.out.bi (by show 0 < 1;decide) l7 ?_);intro We hke hge hze
             have HJe:=kp (HJd.out.setI (vi':=.int .i64 (i : Int)) hke hge HG3.out.1 HG3.out.2.2.1);have HHe:=kp (HHd.out.trans (Held.of_grown hge fun k hk => ⟨by omega,fun e => by cases e;have:=HGiw.out.1;omega⟩));have hze' : Wr.heap.size ≤ We.heap.size:=by omega
             clear hke hge hze)
          | ((with_reducible show Sn);(refine j6 rfl 4 (.tmp 5) (.const (.bool true)) rfl gB 0 (.bool true) rfl rfl rfl rfl _ _ HJe.out.bb (by show 0 < 1;decide) uE ?_);intro Wf hkf hgf hzf
             have HJf:=kp (HJe.out.setB (vb':=.bool true) hkf hgf HG3.out.2.1 HG3.out.2.2.2);have HHf:=kp (HHe.out.trans (Held.of_grown hgf fun k hk => ⟨by omega,fun e => by cases e;have:=HGiw.out.2;omega⟩));have hzf' : Wr.heap.size ≤ Wf.heap.size:=by omega
             clear hkf hgf hzf))
        refine wpIn_ret ?_
        have hrun : (Instr.endRound (w6.heap.size + 1) (some .ret)).run Try.prog Wf = .ok (.bool false) (Wf.putObj (w6.heap.size + 1) (.loop { rec with state:=.done,pending:=some .ret })):=run_endRound (P:=Try.prog) (r:={ rec with state:=.busy }) (some .ret) HJf.out.loop
        exact ⟨_,_,hrun,.inr ⟨rfl,HJf.out.put { rec with state:=.done,pending:=some .ret } hwD,HRa.out.1 (by simp),hno'.out⟩,HHf.out.trans (Held.of_grown (grownBy_putObj' Wf (w6.heap.size + 1) _) fun k hk => ⟨by omega,fun e => by cases e;omega⟩)⟩
    case last =>
      rintro e w7 ⟨⟨v,rfl⟩,⟨hJ,hno⟩ | ⟨k,hk,hJ,hra,hno⟩⟩
      · refine ⟨⟨_,rfl⟩,rec,hJ.loop,by rw [hst];exact fun h => (by cases h),?_⟩
        rw [hpe]
        dsimp only
        have hki:=hJ.bi;have hkb:=hJ.bb;have hbw:=hJ.below;have hdd:=hJ.dfr;have hlp:=hJ.loop
        have HE : Kept (MeetEnd p n z 0 0 false):=kp ⟨fun h => absurd rfl h,fun _ => .inr ⟨rfl,rfl,fun j hj => hno j (by omega)⟩⟩
        clear hJ hno hl1' hd1 hb1' hst hpe htm hps has hbo hsrc htw
        obtain ⟨w8,hw8⟩ : ∃ W,w7.putObj (w6.heap.size + 1) (.loop { rec with state:=.exhausted,pending:=none }) = W:=⟨_,rfl⟩
        have HKi8 : Kept (Blk w8 gI 3 [.int .i64 0]):=kp (by rw [← hw8];exact hki.put _ (hki.notObj hlp rfl))
        have HKb8 : Kept (Blk w8 gB 4 [.bool false]):=kp (by rw [← hw8];exact hkb.put _ (hkb.notObj hlp rfl))
        have HD8 : Kept (w8.heap[w6.heap.size]? = some (.deferred (some []))):=kp (by rw [← hw8];exact (World.putObj_heap_other (by omega)).trans hdd)
        have HB8 : Kept (Below w.heap.size w w8):=kp (by rw [← hw8];exact lX hbw _ hbw.size (by omega))
        have HS8:=HB8.out.size
        have HGx : Kept (w.heap.size ≤ gI ∧ w.heap.size ≤ gB ∧ gI ≠ w6.heap.size ∧ gB ≠ w6.heap.size ∧ gI ≠ gB ∧ w.heap.size ≤ w6.heap.size):=kp ⟨by omega,by omega,hki.notObj hdd rfl,hkb.notObj hdd rfl,hni,by omega⟩
        rw [hw8]
        clear hw8 hki hkb hdd hbw hlp
        go_wp2_with (first
          | ((with_reducible show Sn);(refine j6 rfl 3 (.tmp 4) (.const (.int .i64 0)) rfl gI 0 (.int .i64 0) rfl rfl rfl rfl _ _ HKi8.out (by show 0 < 1;decide) l7 ?_);intro w9 hk9 hg9 hz9
             have HKi9 : Kept (Blk w9 gI 3 [.int .i64 0]):=kp hk9;have HKb9:=kp (HKb8.out.grown hg9 (fun e => by cases e;exact HGx.out.2.2.2.2.1 rfl));have HB9:=kp (HB8.out.grown hg9 HS8 (fun k e => by cases e;exact HGx.out.1));have hs9:=HB9.out.size;have HD9:=kp ((hg9.block _ (Array.getElem?_eq_some_iff.1 HD8.out).1 (fun e => by cases e;exact HGx.out.2.2.1 rfl)).trans HD8.out)
             clear hk9 hg9 hz9)
          | ((with_reducible show Sn);(refine j6 rfl 4 (.tmp 5) (.const (.bool false)) rfl gB 0 (.bool false) rfl rfl rfl rfl _ _ HKb9.out (by show 0 < 1;decide) uE ?_);intro w10 hk10 hg10 hz10
             have HKb10 : Kept (Blk w10 gB 4 [.bool false]):=kp hk10;have HKi10:=kp (HKi9.out.grown hg10 (fun e => by cases e;exact HGx.out.2.2.2.2.1 rfl));have HB10:=kp (HB9.out.grown hg10 hs9 (fun k e => by cases e;exact HGx.out.2.1));have HD10:=kp ((hg10.block _ (Array.getElem?_eq_some_iff.1 HD9.out).1 (fun e => by cases e;exact HGx.out.2.2.2.1 rfl)).trans HD9.out)
             clear hk10 hg10 hz10))
        have hb10:=HB10.out.size
        exact (xV (D:=w6.heap.size) rfl HD10.out (yO (P:=Try.prog) (fn:=Try.f14) rfl _ _ ⟨gI,0,none⟩ ⟨gB,0,none⟩ (.int .i64 0) (.bool false) _ _ rfl rfl ((HKi10.out.put _ HGx.out.2.2.1).cell 0) ((HKb10.out.put _ HGx.out.2.2.2.1).cell 0) Try.underlying3 rfl Try.underlying4 rfl) ⟨0,false,rfl,HE.out,lX HB10.out _ hb10 HGx.out.2.2.2.2.2⟩).1
      · refine ⟨⟨_,rfl⟩,_,hJ.loop,(fun h => by cases h),?_⟩
        dsimp only
        refine wp_ret ?_
        have hj8:=hJ.put { rec with state:=.exhausted,pending:=some .ret } hs6
        have hd8:=hj8.dfr
        exact (xV (D:=w6.heap.size) rfl hd8 (yO (P:=Try.prog) (fn:=Try.f14) rfl _ _ ⟨gI,0,none⟩ ⟨gB,0,none⟩ (.int .i64 (k : Int)) (.bool true) _ _ rfl rfl ((hj8.bi.put _ (hj8.bi.notObj hd8 rfl)).cell 0) ((hj8.bb.put _ (hj8.bb.notObj hd8 rfl)).cell 0) Try.underlying3 rfl Try.underlying4 rfl) ⟨k,true,rfl,⟨fun h => absurd rfl h,fun _ => .inl ⟨rfl,hk,hra,hno⟩⟩,lX hj8.below _ hj8.below.size hs6⟩).1
theorem K.found_meets {p : Pg} {l : List (Int × Bool)} {n k : Nat} {b : Bool} (h : K.Found p l) (hn : l.length = n) (hm : MeetIs p n l k b) : k = n ∧ b = true:=by
  rcases hm with ⟨rfl,h1,h2,_⟩ | ⟨rfl,rfl,h1⟩
  · refine ⟨?_,rfl⟩
    rcases Nat.lt_or_ge k n with hlt | hge
    · exact absurd h2 (h.none k (by omega))
    · omega
  · exact absurd h.race (by rw [hn];exact h1 n (Nat.le_refl _))
end Go.Proofs.Ytnaomfmmkhgbhaa
