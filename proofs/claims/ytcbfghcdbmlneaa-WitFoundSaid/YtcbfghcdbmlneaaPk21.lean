/- ScriptP7, WitP5. -/
import Derived.Test.YtcbfghcdbmlneaaPk20
import Derived.Test.YtcbfghcdbmlneaaPk16
import Derived.Test.YtcbfghcdbmlneaaPk5
import Derived.Test.YtcbfghcdbmlneaaPk17
namespace Go.Proofs.Ytcbfghcdbmlneaa
open Go.RowKit
theorem Mine.put11 {w : World} {B l : Nat} {q : Pc} (h : Mine w B q) {o0 : Obj} (o : Obj) (hl : w.heap[l]? = some o0) (hc : o0.isCells = false) : Mine (w.putObj l o) B q :=
  ⟨h.row.put11 o hl hc,⟨fun k x hx => (h.fam.own k x hx).put11 o hl hc,h.fam.out,h.fam.apart⟩⟩
theorem xD {w0 w : World} {B l : Nat} (h : Below B w0 w) (o : Obj) (hB : B ≤ w.heap.size) (hl : B ≤ l) : Below B w0 (w.putObj l o):=h.grown (grownBy_putObj' w l o) hB (fun k e => by cases e;exact hl)
set_option maxRecDepth 100000 in
theorem sc_along1 (y : Value) (w : World) : Calls Try.prog 84 #[y] w fun e w' => e = .returned (.tuple #[]) ∧ w = w':=by
  go_enter Try.func84,Try.ntmps84
  go_wp2
  exact ⟨rfl,_,results_none rfl _ _ _,rfl,rfl⟩
def RunEnd (p : Pg) (n : Nat) (z : List (Int × Bool)) (cc : Nat) (q : Pc) : Prop:=(cc ≠ 0 → q.len = 0) ∧ (cc = 0 → q.cf = runTo p z n)
def RunPost (p : Pg) (n : Nat) (z : List (Int × Bool)) (cc : Nat) (w : World) : Ending → World → Prop:=fun e w' => ∃ q : Pc,e = .returned (.tuple #[pcA q,.int .i64 (cc : Int)]) ∧ Mine w' w.heap.size q ∧ q.ow.length = 16 ∧ (cc ≠ 0 → q.len = 0) ∧ (cc = 0 → q.cf = runTo p z n) ∧ Below w.heap.size w w'
structure RunJ (w : World) (S L D gP gL gR gE : Nat) (q : Pg) (A : Option Addr) (n c : Nat) (z : List (Int × Bool)) (p : Pg) (rec : Loop) (i : Nat) (W : World) : Prop where
  src : SrcMine W L gP gL q A n c z
  loop : W.heap[D + 1]? = some (.loop rec)
  dfr : W.heap[D]? = some (.deferred (some []))
  size : S ≤ W.heap.size
  below : Below w.heap.size w W
  res : ∃ cs,cs.length = 17 ∧ Blk W gR 91 cs
  fin : ∃ qe : Pc,Blk W gE 91 (pcC qe) ∧ Mine W w.heap.size qe ∧ qe.ow.length = 16 ∧ qe.cf = runTo p z (i - 1)
section
variable {w : World} {S L D gP gL gR gE : Nat} {q : Pg} {A : Option Addr} {n c : Nat} {z : List (Int × Bool)} {p : Pg} {rec : Loop} {i : Nat} {W W' : World}
theorem RunJ.more (h : RunJ w S L D gP gL gR gE q A n c z p rec i W) (hb : Below W.heap.size W W') : RunJ w S L D gP gL gR gE q A n c z p rec i W':=by
  obtain ⟨cs,h1,h2⟩:=h.res
  obtain ⟨qe,h3,h4,h5,h6⟩:=h.fin
  have hl:=(Array.getElem?_eq_some_iff.1 h.loop).1
  have hd:=(Array.getElem?_eq_some_iff.1 h.dfr).1
  exact ⟨h.src.below hb,(hb.block _ hl).trans h.loop,(hb.block _ hd).trans h.dfr,Nat.le_trans h.size hb.size,h.below.trans (hb.mono h.below.size),⟨cs,h1,h2.below hb h2.lt⟩,qe,h3.below hb h3.lt,h4.below hb (Nat.le_refl _),h5,h6⟩
theorem RunJ.conf {g : Nat} {cs : List Value} (h : RunJ w S L D gP gL gR gE q A n c z p rec i W) (hS : S ≤ g) (hk : Blk W g 91 cs) (hg : W.grownBy W' (some g)) (hD : D + 1 < S) (hR : gR < S) (hE : gE < S) (hw : w.heap.size ≤ S) : RunJ w S L D gP gL gR gE q A n c z p rec i W':=by
  obtain ⟨cs',h1,h2⟩:=h.res
  obtain ⟨qe,h3,h4,h5,h6⟩:=h.fin
  have hb : Below S W W':=(Below.refl S W).grown hg h.size (fun k e => by cases e;exact hS)
  exact ⟨h.src.conf hk hg,(hb.block _ hD).trans h.loop,(hb.block _ (by omega)).trans h.dfr,Nat.le_trans h.size hg.size,h.below.trans (hb.mono hw),⟨cs',h1,h2.below hb hR⟩,qe,h3.below hb hE,Mine.typed h4 hk hg,h5,h6⟩
theorem RunJ.round {Wd : World} {q1 : Pc} (h : RunJ w S L D gP gL gR gE q A n c z p rec i W) (hst : rec.state = .ready) (hpe : rec.pending = none) (hk : Blk Wd gE 91 (pcC q1))
    (hg : (W.putObj (D + 1) (.loop { rec with state:=.busy })).grownBy Wd (some gE)) (hm : Mine W w.heap.size q1) (h16 : q1.ow.length = 16) (hcf : q1.cf = runTo p z i) (hD : D + 1 < S) (hE : gE < L ∧ gE ≠ gR ∧ gE < D) (hw : w.heap.size ≤ gE) :
    ∃ We,(Instr.endRound (D + 1) none).run Try.prog Wd = .ok (.bool true) We ∧ RunJ w S L D gP gL gR gE q A n c z p rec (i + 1) We ∧ Held (fun k => S ≤ k ∧ k < W.heap.size) W We:=by
  obtain ⟨cs',h1,h2⟩:=h.res
  obtain ⟨qe,h3,h4,h5,h6⟩:=h.fin
  have hl:=(Array.getElem?_eq_some_iff.1 h.loop).1
  have hd:=(Array.getElem?_eq_some_iff.1 h.dfr).1
  have hRl:=h2.notObj h.loop rfl
  have hws:=h.below.size
  obtain ⟨Wc,hWc⟩ : ∃ Wc,W.putObj (D + 1) (.loop { rec with state:=.busy }) = Wc:=⟨_,rfl⟩
  have hlc : Wc.heap[D + 1]? = some (.loop { rec with state:=.busy }):=by rw [← hWc];exact World.putObj_heap_same hl
  have hdc : Wc.heap[D]? = some (.deferred (some [])):=by rw [← hWc];exact (World.putObj_heap_other (by omega)).trans h.dfr
  have hsc : SrcMine Wc L gP gL q A n c z:=by rw [← hWc];exact h.src.put _ h.loop rfl
  have hmc : Mine Wc w.heap.size q1:=by rw [← hWc];exact hm.put11 _ h.loop rfl
  have hbc : Below w.heap.size w Wc:=by rw [← hWc];exact xD h.below _ hws (by omega)
  have h2c : Blk Wc gR 91 cs':=by rw [← hWc];exact h2.put _ hRl
  have h3c : Blk Wc gE 91 (pcC qe):=by rw [← hWc];exact h3.put _ (by omega)
  have hzc : Wc.heap.size = W.heap.size:=by rw [← hWc];simp
  rw [hWc] at hg
  have hld : Wd.heap[D + 1]? = some (.loop { rec with state:=.busy }):=(hg.block _ (Array.getElem?_eq_some_iff.1 hlc).1 (by intro e;cases e;omega)).trans hlc
  have hdd : Wd.heap[D]? = some (.deferred (some [])):=(hg.block _ (Array.getElem?_eq_some_iff.1 hdc).1 (by intro e;cases e;omega)).trans hdc
  have hsd:=hsc.turn hg hE.1
  have hmd:=Mine.typed hmc h3c hg
  have hbd:=hbc.grown hg hbc.size (fun k e => by cases e;exact hw)
  have h2d:=h2c.grown hg (fun e => by cases e;exact hE.2.1 rfl)
  have hzd:=hg.size
  have hrun:=run_endRound (P:=Try.prog) none hld
  have hrec : ({ ({ rec with state:=.busy } : Loop) with state:=if (none : Option Code).isNone then .ready else .done,pending:=none } : Loop) = rec:=rec_on hst hpe
  refine ⟨Wd.putObj (D + 1) (.loop rec),?_,?_,?_⟩
  · rw [hrec] at hrun;exact hrun
  · have hlt:=(Array.getElem?_eq_some_iff.1 hld).1
    exact ⟨hsd.put _ hld rfl,World.putObj_heap_same hlt,(World.putObj_heap_other (by omega)).trans hdd,by have:=h.size;simp;omega,xD hbd _ hbd.size (by omega),⟨cs',h1,h2d.put _ hRl⟩,q1,hk.put _ (by omega),hmd.put11 _ hld rfl,h16,by simpa using hcf⟩
  · have g2:=grownBy_putObj' Wd (D + 1) (.loop rec)
    have g0:=grownBy_putObj' W (D + 1) (.loop { rec with state:=.busy })
    rw [hWc] at g0
    exact ((Held.of_grown g0 fun k hk => ⟨hk.2,fun e => by cases e;omega⟩).trans (Held.of_grown hg fun k hk => ⟨by omega,fun e => by cases e;omega⟩)).trans (Held.of_grown g2 fun k hk => ⟨by omega,fun e => by cases e;omega⟩)
end
set_option maxRecDepth 1000000 in
set_option maxHeartbeats 8000000 in
theorem sc_run (B : Nat) (p : Pg) (A : Option Addr) (n c : Nat) (z : List (Int × Bool)) (w : World) (hp : p.Ok w B) (hz : Picks w B A n z) (hn : n ≤ 2000) (hB : B ≤ w.heap.size) (ca cb : Int) (cc : Nat) (hc : Q.check p = (ca,cb,cc)) :
    Calls Try.prog 41 #[pgA p,.slice A n c] w (RunPost p n z cc w):=by
  have HP:=kp hp;have HZ:=kp hz;have HC:=kp hc
  clear hp hz hc
  rw [jL]
  refine QR Try.func41 rfl ?_
  simp only [Try.ntmps41,List.size_toArray,List.length_cons,List.length_nil,Nat.reduceAdd,Nat.reduceSub,Array.replicate_succ,Array.replicate_zero,List.push_toArray,List.append_toArray,List.nil_append,List.cons_append]
  go_wp2_with (first
    | ((with_reducible refine j6 rfl 46 (.tmp 0) rfl (pgC p) rfl ?_);intro gP w1 hgP hk1 hw1;have HKp1:=kp hk1;have HGP:=kp hgP;have HW1:=kp hw1;have hs1:=hw1.size;have hl1:=hk1.lt;clear hk1 hw1 hgP)
    | ((with_reducible show Sl 4);go_must (refine j7 rfl 91 rfl _ l7 ?_);intro gR w2 hgR hk2 hw2;have HKr2:=kp hk2;have HGR : Kept (w.heap.size ≤ gR ∧ gR ≠ gP):=kp ⟨by omega,by omega⟩;have HKp2:=kp (HKp1.out.below hw2 hl1);have HW2:=kp (HW1.out.trans (hw2.mono hs1));have hs2:=HW2.out.size;have hlp2:=HKp2.out.lt;have hlr2:=hk2.lt;clear hk2 hw2 hgR)
    | ((with_reducible show Sl 11);go_must (refine j4 rfl 46 (.tmp 2) rfl gP rfl _ (pgC p) _ HKp2.out Try.underlying46 rfl jF ?_))
    | (go_at_call 51;fail))
  refine (y7 B p w2 (HP.out.below (HW2.out.mono hB)) (by omega) ca cb cc HC.out).mono ?_
  unfold StartPost2
  rintro e w3 ⟨q0,rfl,hmi,hcf,hlen,h16,hb3⟩
  have HMi3:=kp (hmi.less (show w.heap.size ≤ w2.heap.size by omega));have HCf:=kp hcf;have HLe:=kp hlen;have H016:=kp h16;have H017:=kp (jW h16);have HW3:=kp (HW2.out.trans (hb3.mono hs2));have hs3:=HW3.out.size;have HKp3:=kp (HKp2.out.below hb3 hlp2);have HKr3:=kp (HKr2.out.below hb3 hlr2);have hlp3:=HKp3.out.lt;have hlr3:=HKr3.out.lt
  clear h16 hb3 hmi hcf hlen
  go_wp2_with (first
    | ((with_reducible show Sl 6);go_must (refine j7 rfl 91 rfl _ l7 ?_);intro gE w4 hgE hk4 hb4;have HKe4:=kp hk4;have HGE : Kept (w.heap.size ≤ gE ∧ gE ≠ gP ∧ gE ≠ gR):=kp ⟨by omega,by omega,by omega⟩;have HW4:=kp (HW3.out.trans (hb4.mono hs3));have hs4:=HW4.out.size;have HKp4:=kp (HKp3.out.below hb4 hlp3);have HKr4:=kp (HKr3.out.below hb4 hlr3);have HMi4:=kp (HMi3.out.below hb4 (Nat.le_refl _));clear hk4 hb4 hgE)
    | ((with_reducible show Sn);(refine j5 rfl 91 (.tmp 6) (.tmp 13) rfl gE (pcC q0) rfl rfl _ _ HKe4.out (by rw [H017.out];exact jC) (by rw [H017.out];rfl) (jX q0) ?_);intro w5 hk5 hg5 hz5
       have HW5:=kp (HW4.out.grown hg5 hs4 (fun k e => by cases e;exact HGE.out.1));have hs5:=HW5.out.size;have HKe5:=kp hk5;have HMi5:=kp (Mine.typed HMi4.out HKe4.out hg5)
       have HKp5:=kp (HKp4.out.grown hg5 (fun e => by cases e;exact HGE.out.2.1 rfl));have HKr5:=kp (HKr4.out.grown hg5 (fun e => by cases e;exact HGE.out.2.2 rfl));have hlp5:=HKp5.out.lt;have hlr5:=HKr5.out.lt;have hle5:=hk5.lt
       clear hk5 hg5 hz5)
    | ((with_reducible show Sl 15);go_must (refine j4 rfl 46 (.tmp 2) rfl gP rfl _ (pgC p) _ HKp5.out Try.underlying46 rfl jF ?_))
    | (go_at_call 64;fail))
  refine (sc_along B p A n c z w5 (HP.out.below (HW5.out.mono hB)) (HZ.out.below (HW5.out.mono hB)) hn (by omega) ca cb cc HC.out).mono ?_
  unfold AlongPost
  rintro e w6 ⟨h,hb6⟩
  have HW6:=kp (HW5.out.trans (hb6.mono hs5));have hs6:=HW6.out.size;have HKr6:=kp (HKr5.out.below hb6 hlr5);have HKe6:=kp (HKe5.out.below hb6 hle5);have HMi6:=kp (HMi5.out.below hb6 (Nat.le_refl _));have HLt : Kept (gR < w6.heap.size ∧ gE < w6.heap.size ∧ w5.heap.size ≤ w6.heap.size):=kp ⟨HKr6.out.lt,HKe6.out.lt,hb6.size⟩
  clear hb6
  have hlt1:=HLt.out.1;have hlt2:=HLt.out.2.1;have hlt3:=HLt.out.2.2;have hge1:=HGE.out.1;have hge2:=HGE.out.2.2;have hgr1:=HGR.out.1
  rcases h with ⟨hz0,rfl⟩ | ⟨rfl,gP2,gL2,q2,A2,c2,rfl,htw,hsrc,hc2⟩
  · go_wp2
    refine xX (gf:=84) (lb:=#[]) rfl (enters_of Try.func84 (by kernel_rfl) rfl) ?_
    intro rec hst hpe htm hps has hbo W1 hW1
    obtain ⟨hl1',hd1,hb1',hz1⟩:=JX hW1
    refine (sc_along1 _ W1).mono ?_
    rintro e w7 ⟨rfl,rfl⟩
    refine ⟨⟨_,rfl⟩,rec,hl1',by rw [hst];exact fun h => (by cases h),?_⟩
    rw [hpe]
    dsimp only
    have hkr:=HKr6.out.below hb1' HLt.out.1;have hke:=HKe6.out.below hb1' HLt.out.2.1;have hme:=HMi6.out.below hb1' (Nat.le_refl _);have hbw:=HW6.out.trans (hb1'.mono hs6);have hdd:=hd1;have hlp:=hl1'
    obtain ⟨qe,hqq⟩ : ∃ qe,q0 = qe:=⟨_,rfl⟩
    obtain ⟨cs',hcs⟩ : ∃ cs',(Value.slice none 0 0 :: zeros 16 : List Value) = cs':=⟨_,rfl⟩
    have hlr : cs'.length = 17:=by rw [← hcs];rfl
    rw [hqq] at hke hme
    rw [hcs] at hkr
    have hqe : qe.ow.length = 16:=by rw [← hqq];exact H016.out
    have HE1 : Kept (RunEnd p n z cc qe):=kp ⟨by rw [← hqq];exact HLe.out,fun h => absurd h hz0⟩
    clear hqq hcs hl1' hd1 hb1' hz0
    obtain ⟨w8,hw8⟩ : ∃ W,W1.putObj (w6.heap.size + 1) (.loop { rec with state:=.exhausted,pending:=none }) = W:=⟨_,rfl⟩
    have HKr8 : Kept (Blk w8 gR 91 cs'):=kp (by rw [← hw8];exact hkr.put _ (by omega))
    have HKe8 : Kept (Blk w8 gE 91 (pcC qe)):=kp (by rw [← hw8];exact hke.put _ (by omega))
    have HM8 : Kept (Mine w8 w.heap.size qe):=kp (by rw [← hw8];exact hme.put11 _ hlp rfl)
    have HD8 : Kept (w8.heap[w6.heap.size]? = some (.deferred (some []))):=kp (by rw [← hw8];exact (World.putObj_heap_other (by omega)).trans hdd)
    have HB8 : Kept (Below w.heap.size w w8):=kp (by rw [← hw8];exact xD hbw _ hbw.size (by omega))
    have HL17:=kp hlr;have HQ16:=kp hqe;have HQ17:=kp (jW hqe);have HS8:=HB8.out.size
    have HGx : Kept (w.heap.size ≤ gR ∧ gR ≠ w6.heap.size ∧ gE ≠ gR ∧ w.heap.size ≤ w6.heap.size):=kp ⟨by omega,by omega,by omega,by omega⟩
    rw [hw8]
    clear hw8 hkr hke hme hdd hbw hlr hqe hlp
    go_wp2_with (first
      | ((with_reducible show Sl 21);go_must (refine j4 rfl 91 (.tmp 6) rfl gE rfl _ (pcC qe) _ HKe8.out Try.underlying91 rfl (by rw [HQ17.out];exact jC) ?_))
      | ((with_reducible show Sn);(refine j5 rfl 91 (.tmp 4) (.tmp 21) rfl gR (pcC qe) rfl rfl _ _ HKr8.out (by rw [HQ17.out];exact jC) (by rw [HQ17.out,HL17.out]) (jX qe) ?_);intro w9 hk9 hg9 hz9
         have HKr9:=kp hk9;have HM9:=kp (Mine.typed HM8.out HKr8.out hg9);have HB9:=kp (HB8.out.grown hg9 HS8 (fun k e => by cases e;exact HGx.out.1));have HD9:=kp ((hg9.block _ (Array.getElem?_eq_some_iff.1 HD8.out).1 (fun e => by cases e;exact HGx.out.2.1 rfl)).trans HD8.out)
         clear hk9 hg9 hz9))
    have hb9:=HB9.out.size
    exact (zZ (D:=w6.heap.size) rfl HD9.out (lJ (P:=Try.prog) (fn:=Try.f41) rfl _ _ gR 91 _ _ _ rfl rfl (HKr9.out.put _ HGx.out.2.1) Try.underlying91 rfl (by rw [HQ17.out];exact jC)) ⟨qe,rfl,HM9.out.put11 _ HD9.out rfl,HQ16.out,HE1.out.1,HE1.out.2,xD HB9.out _ hb9 HGx.out.2.2.2⟩).1
  · go_wp2
    refine xX (gf:=86) rfl (enters_of Try.func86 (by kernel_rfl) rfl) ?_
    intro rec hst hpe htm hps has hbo W1 hW1
    obtain ⟨hl1',hd1,hb1',hz1⟩:=JX hW1
    clear hW1
    refine (sc_along2 (.func (.yield (w6.heap.size + 1)) #[] #[]) gP2 gL2 q2 A2 n c2 z W1 0 0 (htw.check (xT HC.out)) hn (RunJ w W1.heap.size w5.heap.size w6.heap.size gP2 gL2 gR gE q2 A2 n c2 z p rec) (fun _ _ => False)
      (fun i A hj => hj.src.src) (fun i A A' hj hb => hj.more hb) (fun i A A' g cs hj hg hk hgr => hj.conf hg hk hgr (by omega) (by omega) (by omega) (by omega)) ?round ?first).mono ?last
    case first =>
      exact ⟨⟨hsrc.pb.below hb1' hsrc.pb.lt,hsrc.lb.below hb1' hsrc.lb.lt,hsrc.ok.below hb1',hsrc.pk.below hb1' (Nat.le_refl _),hsrc.i64,hsrc.lo⟩,hl1',hd1,Nat.le_refl _,HW6.out.trans (hb1'.mono hs6),⟨Value.slice none 0 0 :: zeros 16,rfl,HKr6.out.below hb1' HLt.out.1⟩,q0,HKe6.out.below hb1' HLt.out.2.1,HMi6.out.below hb1' (Nat.le_refl _),H016.out,by rw [vX];exact HCf.out (by simp)⟩
    case round =>
      intro i Wr q1 hi hj hsz hm1 hcq h16q
      refine Y7 (vs:=[.int .i64 (i : Int),pcA q1]) (ps:=[18,19]) hj.loop hst htm hps has hbo rfl ?_
      refine uV (r:=some (w6.heap.size + 1)) rfl (by rintro ⟨_,_,h⟩;exact h) ?_
      have hst':=kp hst;have hpe':=kp hpe;have hj':=kp hj;have hm1':=kp hm1;have hcq':=kp (hcq.trans (htw.runTo z i));have h16':=kp h16q;have h17':=kp (jW h16q);have hzW:=hj.size;have hwW:=hj.below.size
      clear hst hpe htm hps has hbo hj hm1 hcq h16q hsrc htw
      simp only [List.zip_cons_cons,List.zip_nil_right,List.foldl_cons,List.foldl_nil]
      go_wp2_with (first
        | ((with_reducible show Sl 9);go_must (refine j7 rfl 91 rfl _ l7 ?_);intro g9 Wa hg9 hka hba;have HKa:=kp hka;have HGa:=kp hg9;have HBa:=kp hba;have hsa:=hba.size;have HMa:=kp (hm1'.out.below hba (Nat.le_refl _));clear hka hba hg9)
        | ((with_reducible show Sn);(refine j5 rfl 91 (.tmp 9) (.tmp 19) rfl g9 (pcC q1) rfl rfl _ _ HKa.out (by rw [h17'.out];exact jC) (by rw [h17'.out];rfl) (jX q1) ?_);intro Wb hkb hgb hzb
           have HKb:=kp hkb;have HBb:=kp (HBa.out.grown hgb hsa (fun k e => by cases e;exact HGa.out));have HMb:=kp (Mine.typed HMa.out HKa.out hgb)
           clear hkb hgb hzb))
      have hjb:=hj'.out.more HBb.out
      refine ⟨hjb.loop,wpIn_block (uV (r:=some (w6.heap.size + 1)) rfl (by rintro ⟨_,_,h⟩;exact h) ?_)⟩
      obtain ⟨qe,hke,_,hqe,_⟩:=hjb.fin
      have hjb':=kp hjb
      obtain ⟨Wc,hWc⟩ : ∃ Wc,Wb.putObj (w6.heap.size + 1) (.loop { rec with state:=.busy }) = Wc:=⟨_,rfl⟩
      have HWc:=kp hWc
      have HK9 : Kept (Blk Wc g9 91 (pcC q1)):=kp (by rw [← hWc];exact HKb.out.put _ (HKb.out.notObj hjb.loop rfl))
      have HKE : Kept (Blk Wc gE 91 (pcC qe)):=kp (by rw [← hWc];exact hke.put _ (by omega))
      have HQe:=kp (jW hqe)
      rw [hWc]
      clear hjb hke hqe hWc
      go_wp2_with (first
        | ((with_reducible show Sl 20);go_must (refine j4 rfl 91 (.tmp 9) rfl g9 rfl _ (pcC q1) _ HK9.out Try.underlying91 rfl (by rw [h17'.out];exact jC) ?_))
        | ((with_reducible show Sn);(refine j5 rfl 91 (.tmp 6) (.tmp 20) rfl gE (pcC q1) rfl rfl _ _ HKE.out (by rw [h17'.out];exact jC) (by rw [h17'.out,HQe.out]) (jX q1) ?_);intro Wd hkd hgd hzd
           have HKd:=kp hkd;have HGd : Kept ((Wb.putObj (w6.heap.size + 1) (.loop { rec with state:=.busy })).grownBy Wd (some gE)):=kp (by rw [HWc.out];exact hgd)
           clear hkd hgd hzd))
      have hsz9 : W1.heap.size ≤ Wr.heap.size:=hzW
      obtain ⟨We,hrun,hJ,hheld⟩:=hjb'.out.round hst'.out hpe'.out HKd.out HGd.out (HMb.out.less (by omega)) h16'.out hcq'.out (by omega) ⟨by omega,by omega,by omega⟩ (by omega)
      exact ⟨_,_,hrun,.inl ⟨rfl,hJ⟩,(Held.of_below HBb.out fun k hk => hk.2).trans (hheld.less fun k hk => ⟨hk.1,Nat.lt_of_lt_of_le hk.2 HBb.out.size⟩)⟩
    case last =>
      rintro e w7 ⟨⟨v,rfl⟩,hJ | ⟨_,_,h⟩⟩
      case inr => exact h.elim
      refine ⟨⟨_,rfl⟩,rec,hJ.loop,by rw [hst];exact fun h => (by cases h),?_⟩
      rw [hpe]
      dsimp only
      obtain ⟨cs',hlr,hkr⟩:=hJ.res
      obtain ⟨qe,hke,hme,hqe,hcfe⟩:=hJ.fin
      have hbw:=hJ.below;have hdd:=hJ.dfr;have hlp:=hJ.loop
      have HE1 : Kept (RunEnd p n z 0 qe):=kp ⟨fun h => absurd rfl h,fun _ => by rw [hcfe];rfl⟩
      clear hJ hst hpe htm hps has hbo hcfe hl1' hd1 hb1'
      obtain ⟨w8,hw8⟩ : ∃ W,w7.putObj (w6.heap.size + 1) (.loop { rec with state:=.exhausted,pending:=none }) = W:=⟨_,rfl⟩
      have HKr8 : Kept (Blk w8 gR 91 cs'):=kp (by rw [← hw8];exact hkr.put _ (by omega))
      have HKe8 : Kept (Blk w8 gE 91 (pcC qe)):=kp (by rw [← hw8];exact hke.put _ (by omega))
      have HM8 : Kept (Mine w8 w.heap.size qe):=kp (by rw [← hw8];exact hme.put11 _ hlp rfl)
      have HD8 : Kept (w8.heap[w6.heap.size]? = some (.deferred (some []))):=kp (by rw [← hw8];exact (World.putObj_heap_other (by omega)).trans hdd)
      have HB8 : Kept (Below w.heap.size w w8):=kp (by rw [← hw8];exact xD hbw _ hbw.size (by omega))
      have HL17:=kp hlr;have HQ16:=kp hqe;have HQ17:=kp (jW hqe);have HS8:=HB8.out.size
      have HGx : Kept (w.heap.size ≤ gR ∧ gR ≠ w6.heap.size ∧ gE ≠ gR ∧ w.heap.size ≤ w6.heap.size):=kp ⟨by omega,by omega,by omega,by omega⟩
      rw [hw8]
      clear hw8 hkr hke hme hdd hbw hlr hqe hlp
      go_wp2_with (first
        | ((with_reducible show Sl 21);go_must (refine j4 rfl 91 (.tmp 6) rfl gE rfl _ (pcC qe) _ HKe8.out Try.underlying91 rfl (by rw [HQ17.out];exact jC) ?_))
        | ((with_reducible show Sn);(refine j5 rfl 91 (.tmp 4) (.tmp 21) rfl gR (pcC qe) rfl rfl _ _ HKr8.out (by rw [HQ17.out];exact jC) (by rw [HQ17.out,HL17.out]) (jX qe) ?_);intro w9 hk9 hg9 hz9
           have HKr9:=kp hk9;have HM9:=kp (Mine.typed HM8.out HKr8.out hg9);have HB9:=kp (HB8.out.grown hg9 HS8 (fun k e => by cases e;exact HGx.out.1));have HD9:=kp ((hg9.block _ (Array.getElem?_eq_some_iff.1 HD8.out).1 (fun e => by cases e;exact HGx.out.2.1 rfl)).trans HD8.out)
           clear hk9 hg9 hz9))
      have hb9:=HB9.out.size
      exact (zZ (D:=w6.heap.size) rfl HD9.out (lJ (P:=Try.prog) (fn:=Try.f41) rfl _ _ gR 91 _ _ _ rfl rfl (HKr9.out.put _ HGx.out.2.1) Try.underlying91 rfl (by rw [HQ17.out];exact jC)) ⟨qe,rfl,HM9.out.put11 _ HD9.out rfl,HQ16.out,HE1.out.1,HE1.out.2,xD HB9.out _ hb9 HGx.out.2.2.2⟩).1
theorem Pg.Ok.more13 {p : Pg} {w : World} {B B2 : Nat} (h : p.Ok w B) (hB : B ≤ B2) : p.Ok w B2 :=
  ⟨h.g,h.l,h.s,h.row.more hB,fun f hf => ⟨⟨(h.fns f hf).nodes.1.more hB,(h.fns f hf).nodes.2⟩,(h.fns f hf).lc,(h.fns f hf).cm,(h.fns f hf).nil⟩,h.lc,h.cm,h.nil⟩
set_option maxRecDepth 1000000 in
set_option maxHeartbeats 8000000 in
theorem LP (B : Nat) (p : Pg) (x : Wt) (w : World) (hp : p.Ok w B) (hx : x.Ok w B) (hn : x.len ≤ 2000) (hB : B ≤ w.heap.size) (c : Nat) (hc : x.check = c) (ca cb : Int) (cc : Nat) (hcc : Q.check p = (ca,cb,cc))
    (rb : Bool) (re : Nat) (h1 : c ≠ 0 → rb = false ∧ re = c) (h2 : c = 0 → cc ≠ 0 → rb = false ∧ re = cc) (h3 : c = 0 → cc = 0 → M.pair p (runTo p x.z x.len) x.a x.b x.g = rb ∧ re = 0) :
    Calls Try.prog 18 #[pgA p,wtA x] w fun e w' => e = .returned (.tuple #[.bool rb,.int .i64 (re : Int)]) ∧ Below w.heap.size w w':=by
  have HP:=kp hp;have HX:=kp hx;have HC:=kp hc;have HCc:=kp hcc;have H1:=kp h1;have H2:=kp h2;have H3:=kp h3
  clear hp hx hc hcc h1 h2 h3
  rw [l6,jL]
  go_enter Try.func18,Try.ntmps18
  go_wp2_with (first
    | ((with_reducible refine j6 rfl 46 (.tmp 0) rfl (pgC p) rfl ?_);intro g1 w1 hg1 hk1 hw1;have HK1:=kp hk1;have HW1:=kp hw1;have hs1:=hw1.size;have hl1:=hk1.lt;clear hg1 hk1 hw1)
    | ((with_reducible refine j6 rfl 24 (.tmp 1) rfl (wtC x) rfl ?_);intro g2 w2 hg2 hk2 hw2;have HX2:=kp hk2;have HK2:=kp (HK1.out.below hw2 hl1);have HW2:=kp (HW1.out.trans (hw2.mono hs1));have hs2:=HW2.out.size;have hl2:=HK2.out.lt;have hx2:=hk2.lt;clear hg2 hk2 hw2)
    | ((with_reducible show Sl 9);go_must (refine j4 rfl 24 (.tmp 3) rfl g2 rfl _ (wtC x) _ HX2.out Try.underlying24 rfl jD ?_))
    | (go_at_call 12;fail))
  rw [← l6]
  refine (xF B x w2 (HX.out.below (HW2.out.mono hB)) (by omega) (by omega) c HC.out).mono ?_
  rintro e w3 ⟨rfl,hb3⟩
  have HW3:=kp (HW2.out.trans (hb3.mono hs2));have HK3:=kp (HK2.out.below hb3 hl2);have HX3:=kp (HX2.out.below hb3 hx2)
  have hs3:=HW3.out.size;have hl3:=HK3.out.lt;have hx3:=HX3.out.lt
  clear hb3
  by_cases h0 : c = 0
  rotate_left
  · obtain ⟨rfl,rfl⟩:=H1.out h0
    have hb0 : ((re : Int) != 0) = true:=by rw [bne_iff_ne];omega
    clear h0
    go_wp2
    go_ret2
    exact ⟨rfl,HW3.out⟩
  have H2':=kp (H2.out h0);have H3':=kp (H3.out h0)
  have hb0 : ((c : Int) != 0) = false:=by subst h0;rfl
  obtain ⟨hd0,_,_,_⟩:=jS HX3.out
  clear h0
  go_wp2_with (first
    | ((with_reducible show Sl 15);go_must (refine j4 rfl 46 (.tmp 2) rfl g1 rfl _ (pgC p) _ HK3.out Try.underlying46 rfl jF ?_))
    | (go_at_call 41;fail))
  rw [← jL]
  refine (sc_run B p x.A x.len x.cap x.z w3 (HP.out.below (HW3.out.mono hB)) (HX.out.below (HW3.out.mono hB)).picks hn (by omega) ca cb cc HCc.out).mono ?_
  unfold RunPost
  rintro e w4 ⟨q,rfl,hm4,ho4,hq0,hqc,hb4⟩
  have HM4:=kp hm4;have HQc:=kp hqc;have HQ17:=kp (jW ho4)
  have HW4:=kp (HW3.out.trans (hb4.mono hs3));have HK4:=kp (HK3.out.below hb4 hl3);have HX4:=kp (HX3.out.below hb4 hx3)
  have hs4:=HW4.out.size;have hl4:=HK4.out.lt;have hx4:=HX4.out.lt
  clear hm4 ho4 hq0 hqc hb4 hd0
  by_cases hz : cc = 0
  rotate_left
  · obtain ⟨rfl,rfl⟩:=H2'.out hz
    have hb1 : ((re : Int) != 0) = true:=by rw [bne_iff_ne];omega
    clear hz
    go_wp2_with (first
      | ((with_reducible show Sl 7);go_must (refine j7 rfl 91 rfl _ l7 ?_);intro gN w5 hgN hk5 hw5
         have HN5:=kp hk5;have HW5:=kp (HW4.out.trans (hw5.mono hs4));have HK5:=kp (HK4.out.below hw5 hl4);have HX5:=kp (HX4.out.below hw5 hx4);have HM5:=kp (HM4.out.below hw5 (Nat.le_refl _))
         have hs5:=HW5.out.size;have hs45:=hw5.size
         clear hk5 hw5)
      | ((with_reducible show Sn);(refine j5 rfl 91 (.tmp 7) (.tmp 19) rfl gN (pcC q) rfl rfl _ _ HN5.out (by rw [HQ17.out];exact jC) (by rw [HQ17.out];rfl) (jX q) ?_);intro w6 hk6 hg6 hz6
         have HN6:=kp hk6;have HW6:=kp (HW5.out.grown hg6 hs5 (by intro k e;cases e;omega));have HK6:=kp (HK5.out.grown hg6 (by intro e;cases e;omega));have HX6:=kp (HX5.out.grown hg6 (by intro e;cases e;omega));have HM6:=kp (Mine.typed HM5.out HN5.out hg6)
         have hs6:=HW6.out.size
         clear hk6 hg6)
      | fail)
    go_ret2
    exact ⟨rfl,HW6.out⟩
  obtain ⟨hpr,rfl⟩:=H3'.out hz
  have HCf:=kp (HQc.out hz)
  have HF : Kept (Fine p):=kp (xT (by rw [HCc.out,hz]))
  have HG : Kept (M.Good p q.cf):=kp (by rw [HCf.out];exact qA HF.out HP.out.row.len x.z x.len)
  have HPr : Kept (M.pair p q.cf x.a x.b x.g = rb):=kp (by rw [HCf.out];exact hpr)
  have hb1 : ((cc : Int) != 0) = false:=by subst hz;rfl
  clear hz hpr
  go_wp2_with (first
    | ((with_reducible show Sl 7);go_must (refine j7 rfl 91 rfl _ l7 ?_);intro gN w5 hgN hk5 hw5
       have HN5:=kp hk5;have HW5:=kp (HW4.out.trans (hw5.mono hs4));have HK5:=kp (HK4.out.below hw5 hl4);have HX5:=kp (HX4.out.below hw5 hx4);have HM5:=kp (HM4.out.below hw5 (Nat.le_refl _))
       have hs5:=HW5.out.size;have hs45:=hw5.size
       clear hk5 hw5)
    | ((with_reducible show Sn);(refine j5 rfl 91 (.tmp 7) (.tmp 19) rfl gN (pcC q) rfl rfl _ _ HN5.out (by rw [HQ17.out];exact jC) (by rw [HQ17.out];rfl) (jX q) ?_);intro w6 hk6 hg6 hz6
       have HN6:=kp hk6;have HW6:=kp (HW5.out.grown hg6 hs5 (by intro k e;cases e;omega));have HK6:=kp (HK5.out.grown hg6 (by intro e;cases e;omega));have HX6:=kp (HX5.out.grown hg6 (by intro e;cases e;omega));have HM6:=kp (Mine.typed HM5.out HN5.out hg6)
       have hs6:=HW6.out.size
       obtain ⟨_,hd1,hd2,hd3⟩:=jS HX6.out
       clear hk6 hg6)
    | ((with_reducible show Sl 24);go_must (refine j4 rfl 46 (.tmp 2) rfl g1 rfl _ (pgC p) _ HK6.out Try.underlying46 rfl jF ?_))
    | ((with_reducible show Sl 25);go_must (refine j4 rfl 91 (.tmp 7) rfl gN rfl _ (pcC q) _ HN6.out Try.underlying91 rfl (by rw [HQ17.out];exact jC) ?_))
    | (go_at_call 42;fail))
  rw [← jL,← qS]
  refine (race_pair w6.heap.size p HF.out q w6 ((HP.out.below (HW6.out.mono hB)).more13 (by omega)) HM6.out.ok HG.out (Nat.le_refl _) x.a x.b x.g rb HPr.out).mono ?_
  rintro e w7 ⟨rfl,hb7⟩
  have HW7:=kp (HW6.out.trans (hb7.mono hs6))
  clear hb7
  go_wp2
  go_ret2
  exact ⟨rfl,HW7.out⟩
end Go.Proofs.Ytcbfghcdbmlneaa
